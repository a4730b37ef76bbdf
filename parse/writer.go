package parse

import (
	"strings"

	"espalier/api"
	"espalier/char"
)

// writer writes queries. Parentheses stand only where they must, so that what is written nests no deeper than what was read.
type writer struct {
	strings.Builder
}

// put writes words as they are.
func (w *writer) put(words ...string) {
	for _, s := range words {
		w.WriteString(s)
	}
}

// module writes a query.
func (w *writer) module(m api.Module) {
	for _, g := range m.Globals {
		w.put("declare variable $", g.Name, typeAs(g.Type), ":=")
		w.expr(g.Body, singleLevel, ";")
		w.put(";\n")
	}
	for _, f := range m.Funcs {
		w.put("declare function ", f.Name, "(")
		for i, p := range f.Params {
			if i > 0 {
				w.put(",")
			}
			w.put("$", p.Name, typeAs(p.Type))
		}
		w.put(")", typeAs(f.Result), " ")
		w.enclosed(f.Body)
		w.put(";\n")
	}
	w.expr(m.Body, listLevel, "")
}

// typeAs is as and a type, or nothing for the type that is meant then.
func typeAs(t api.SeqType) string {
	if t == anything {
		return ""
	}
	return " as " + Type(t)
}

// expr writes an expression where one of a level at least must stand, and such a word behind it.
func (w *writer) expr(e api.Expr, least int, next string) {
	if levelOf(e) >= least && !runsOn(e, next) {
		w.bare(e, next)
		return
	}
	w.put("(")
	w.bare(e, ")")
	w.put(")")
}

// enclosed writes an expression in braces.
func (w *writer) enclosed(e api.Expr) {
	w.put("{")
	w.expr(e, listLevel, "}")
	w.put("}")
}

// kid is a Kid, or the zero Expr if there is none: what is handed in may be no tree that was read.
func kid(e api.Expr, place int) api.Expr {
	if place >= len(e.Kids) {
		return api.Expr{}
	}
	return e.Kids[place]
}

// levelOf is the level of what bare writes of an expression.
func levelOf(e api.Expr) int {
	switch e.Op {
	case api.Seq:
		if len(e.Kids) > 0 {
			return listLevel
		}
	case api.Flwor, api.Some, api.Every, api.Switch, api.If:
		return singleLevel
	case api.Neg:
		return unaryLevel
	case api.Path, api.Root:
		return pathLevel
	}
	if o, ok := ofOp(e.Op); ok {
		return o.level
	}
	if t, ok := typingOf(e.Op); ok {
		return t.level
	}
	return stepLevel
}

// typingOf is the typing that makes such expressions; false, if none does.
func typingOf(op api.Op) (typing, bool) {
	for _, t := range typings {
		if t.op == op {
			return t, true
		}
	}
	return typing{}, false
}

// runsOn tells whether such a word behind an expression would be read as a part of it: a step behind a / alone, how often behind a type.
func runsOn(e api.Expr, next string) bool {
	switch e.Op {
	case api.Root:
		return next == "*" || char.Name(next)
	case api.Instance, api.Treat:
		return (next == "*" || next == "+") && e.Type.Item != api.NoItem && e.Type.Occ == api.One
	}
	return false
}

// list writes expressions with commas between, and such a word behind them.
func (w *writer) list(es []api.Expr, next string) {
	for i, e := range es {
		if i < len(es)-1 {
			w.expr(e, singleLevel, ",")
			w.put(",")
		} else {
			w.expr(e, singleLevel, next)
		}
	}
}

// bare writes an expression without parentheses around it, where such a word stands behind it.
func (w *writer) bare(e api.Expr, next string) {
	switch e.Op {
	case api.Flwor:
		w.flwor(e, next)
	case api.Some:
		w.quantified("some", e, next)
	case api.Every:
		w.quantified("every", e, next)
	case api.Switch:
		w.typeswitch(e, next)
	case api.If:
		w.conditional(e, next)
	case api.Neg:
		w.put("-")
		w.expr(kid(e, 0), unaryLevel, next)
	case api.Path:
		w.path(e, next)
	case api.Root:
		w.put("/")
	case api.Seq:
		if len(e.Kids) > 0 {
			w.list(e.Kids, next)
			return
		}
		w.put("()")
	default:
		w.operation(e, next)
	}
}

// operation writes an operator and its operands, or an operand and the type that is asked of it, or else a step.
func (w *writer) operation(e api.Expr, next string) {
	if o, ok := ofOp(e.Op); ok {
		least := o.level
		if o.once() {
			least++
		}
		w.expr(kid(e, 0), least, o.word)
		w.put(between(o.word))
		w.expr(kid(e, 1), o.level+1, next)
	} else if t, ok := typingOf(e.Op); ok {
		w.expr(kid(e, 0), t.level+1, t.first)
		w.put(" ", t.first, " ", t.second, " ", Type(e.Type))
	} else {
		w.step(e)
	}
}

// between is an operator as it stands between operands: with blanks, where it could run into one of them.
func between(word string) string {
	if word == "-" || word == "<" || char.Name(word) {
		return " " + word + " "
	}
	return word
}
