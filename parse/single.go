package parse

import "espalier/api"

// expr reads an Expr: of several Singles a Seq.
func (r *reader) expr() api.Expr {
	all := list(r, r.single)
	if len(all) == 1 {
		return all[0]
	}
	return api.Expr{Op: api.Seq, Kids: all}
}

// enclosed reads an expression and the braces around it.
func (r *reader) enclosed() api.Expr {
	r.need("{")
	e := r.inner()
	r.need("}")
	return e
}

// inner reads what stands in braces.
func (r *reader) inner() api.Expr {
	return r.deeper(r.expr)
}

// single reads a Single.
func (r *reader) single() api.Expr {
	return r.deeper(r.oneSingle)
}

func (r *reader) oneSingle() api.Expr {
	switch {
	case r.ahead("for", aVariable), r.ahead("let", aVariable):
		return r.flwor()
	case r.ahead("some", aVariable):
		r.need("some")
		return r.quantified(api.Some)
	case r.ahead("every", aVariable):
		r.need("every")
		return r.quantified(api.Every)
	case r.ahead("typeswitch", "("):
		return r.typeswitch()
	case r.ahead("if", "("):
		return r.conditional()
	}
	return r.operation(orLevel)
}

// flwor reads a Flwor.
func (r *reader) flwor() api.Expr {
	var kids []api.Expr
	for more := r.bindings(); len(more) > 0; more = r.bindings() {
		kids = append(kids, more...)
	}
	if r.take("where") {
		kids = append(kids, api.Expr{Op: api.Where, Kids: []api.Expr{r.single()}})
	}
	if r.take("order", "by") {
		kids = append(kids, r.order())
	}
	r.need("return")
	return api.Expr{Op: api.Flwor, Kids: append(kids, r.single())}
}

// bindings reads the clauses behind one for or let, if one begins here.
func (r *reader) bindings() []api.Expr {
	switch {
	case r.ahead("for", aVariable):
		r.need("for")
		return list(r, r.each)
	case r.ahead("let", aVariable):
		r.need("let")
		return list(r, r.let)
	}
	return nil
}

// each reads what a for says of one variable.
func (r *reader) each() api.Expr {
	e := api.Expr{Op: api.For, Name: r.variable()}
	if r.take("at") {
		e.At = r.variable()
	}
	r.need("in")
	e.Kids = []api.Expr{r.single()}
	return e
}

// let reads what a let says of one variable.
func (r *reader) let() api.Expr {
	e := api.Expr{Op: api.Let, Name: r.variable()}
	r.need(":=")
	e.Kids = []api.Expr{r.single()}
	return e
}

// order reads what stands behind order by.
func (r *reader) order() api.Expr {
	e := api.Expr{Op: api.Order, Kids: []api.Expr{r.single()}}
	e.Down = r.take("descending")
	if !e.Down {
		r.take("ascending")
	}
	return e
}

// quantified reads a Some or an Every from its first variable on, or from a later one: those lie in what the one ahead satisfies.
func (r *reader) quantified(op api.Op) api.Expr {
	e := api.Expr{Op: op, Name: r.variable()}
	r.need("in")
	in := r.single()
	if r.take(",") {
		e.Kids = []api.Expr{in, r.quantified(op)}
		return e
	}
	r.need("satisfies")
	e.Kids = []api.Expr{in, r.single()}
	return e
}

// typeswitch reads a Switch.
func (r *reader) typeswitch() api.Expr {
	r.need("typeswitch", "(")
	kids := []api.Expr{r.expr()}
	r.need(")", "case")
	kids = append(kids, r.typeCase())
	for r.take("case") {
		kids = append(kids, r.typeCase())
	}
	r.need("default")
	last := api.Expr{Op: api.Case, Type: anything}
	if r.ahead(aVariable) {
		last.Name = r.variable()
	}
	r.need("return")
	last.Kids = []api.Expr{r.single()}
	return api.Expr{Op: api.Switch, Kids: append(kids, last)}
}

// typeCase reads what stands behind case.
func (r *reader) typeCase() api.Expr {
	e := api.Expr{Op: api.Case}
	if r.ahead(aVariable) {
		e.Name = r.variable()
		r.need("as")
	}
	e.Type = r.typed()
	r.need("return")
	e.Kids = []api.Expr{r.single()}
	return e
}

// conditional reads an If.
func (r *reader) conditional() api.Expr {
	r.need("if", "(")
	kids := []api.Expr{r.expr()}
	r.need(")", "then")
	kids = append(kids, r.single())
	r.need("else")
	return api.Expr{Op: api.If, Kids: append(kids, r.single())}
}

// operation reads operands and the operators between them, as far as those are of this level at least.
func (r *reader) operation(least int) api.Expr {
	e := r.operand()
	most := stepLevel
	for {
		o, ok := r.operators[r.word(0)]
		if !ok || o.level < least || o.level > most {
			return e
		}
		r.next()
		e = api.Expr{Op: o.op, Kids: []api.Expr{e, r.operation(o.level + 1)}}
		most = o.level
		if o.once() {
			most--
		}
	}
}

// operand reads what stands between operators: what is signed, and the types that are asked of it.
func (r *reader) operand() api.Expr {
	e := r.signed()
	for _, t := range typings {
		if r.take(t.first, t.second) {
			e = api.Expr{Op: t.op, Type: r.asked(t.op), Kids: []api.Expr{e}}
		}
	}
	return e
}

// asked reads the type that such an expression asks for.
func (r *reader) asked(op api.Op) api.SeqType {
	if op == api.Treat || op == api.Instance {
		return r.typed()
	}
	t := r.atomType()
	if op == api.Cast && t.Item == api.AtomItem {
		r.fail()
	}
	if r.take("?") {
		t.Occ = api.Opt
	}
	return t
}

// signed reads signs and what stands behind them.
func (r *reader) signed() api.Expr {
	minuses := 0
	for r.ahead("-") || r.ahead("+") {
		if r.next().Text == "-" {
			minuses++
		}
	}
	e := r.path()
	for range minuses {
		e = api.Expr{Op: api.Neg, Kids: []api.Expr{e}}
	}
	return e
}
