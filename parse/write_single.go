package parse

import "espalier/api"

// flwor writes a Flwor.
func (w *writer) flwor(e api.Expr, next string) {
	last := len(e.Kids) - 1
	for i := range last {
		clause, behind := e.Kids[i], e.Kids[i+1]
		if i == 0 || e.Kids[i-1].Op != clause.Op {
			w.put(clauseWord(clause.Op), " ")
		}
		if behind.Op == clause.Op {
			w.clause(clause, ",")
			w.put(",")
		} else {
			w.clause(clause, "return")
			w.put(" ")
		}
	}
	w.put("return ")
	w.expr(kid(e, max(0, last)), singleLevel, next)
}

// clauseWord is what begins a clause.
func clauseWord(op api.Op) string {
	switch op {
	case api.For:
		return "for"
	case api.Let:
		return "let"
	case api.Where:
		return "where"
	}
	return "order by"
}

// clause writes a clause without its first word, where such a word stands behind it.
func (w *writer) clause(c api.Expr, next string) {
	switch c.Op {
	case api.For:
		w.put("$", c.Name)
		if c.At != "" {
			w.put(" at $", c.At)
		}
		w.put(" in ")
	case api.Let:
		w.put("$", c.Name, ":=")
	}
	w.expr(kid(c, 0), singleLevel, next)
	if c.Down {
		w.put(" descending")
	}
}

// quantified writes a Some or an Every, and with it those that lie right in what it satisfies.
func (w *writer) quantified(word string, e api.Expr, next string) {
	w.put(word, " $", e.Name, " in ")
	for kid(e, 1).Op == e.Op {
		w.expr(kid(e, 0), singleLevel, ",")
		e = kid(e, 1)
		w.put(",$", e.Name, " in ")
	}
	w.expr(kid(e, 0), singleLevel, "satisfies")
	w.put(" satisfies ")
	w.expr(kid(e, 1), singleLevel, next)
}

// typeswitch writes a Switch.
func (w *writer) typeswitch(e api.Expr, next string) {
	w.put("typeswitch (")
	w.expr(kid(e, 0), listLevel, ")")
	w.put(")")
	last := len(e.Kids) - 1
	for i := 1; i < last; i++ {
		c := e.Kids[i]
		w.put(" case ")
		if c.Name != "" {
			w.put("$", c.Name, " as ")
		}
		w.put(Type(c.Type), " return ")
		w.expr(kid(c, 0), singleLevel, "case")
	}
	c := kid(e, max(0, last))
	w.put(" default ")
	if c.Name != "" {
		w.put("$", c.Name, " ")
	}
	w.put("return ")
	w.expr(kid(c, 0), singleLevel, next)
}

// conditional writes an If.
func (w *writer) conditional(e api.Expr, next string) {
	w.put("if (")
	w.expr(kid(e, 0), listLevel, ")")
	w.put(") then ")
	w.expr(kid(e, 1), singleLevel, "else")
	w.put(" else ")
	w.expr(kid(e, 2), singleLevel, next)
}
