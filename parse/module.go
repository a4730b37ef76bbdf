package parse

import "espalier/api"

// module reads the whole text.
func (r *reader) module() api.Module {
	var m api.Module
	for {
		switch {
		case r.ahead("declare", "variable"):
			m.Globals = append(m.Globals, r.global())
		case r.ahead("declare", "function"):
			m.Funcs = append(m.Funcs, r.function())
		default:
			m.Body = r.expr()
			if r.token(0).Kind != api.TokEnd {
				r.fail()
			}
			return m
		}
	}
}

// global reads a variable that is declared.
func (r *reader) global() api.Global {
	r.need("declare", "variable")
	g := api.Global{Name: r.variable()}
	g.Type = r.typeAs()
	r.need(":=")
	g.Body = r.single()
	r.need(";")
	return g
}

// function reads a function that is declared.
func (r *reader) function() api.Func {
	r.need("declare", "function")
	f := api.Func{Name: r.name()}
	r.need("(")
	if !r.ahead(")") {
		f.Params = list(r, r.param)
	}
	r.need(")")
	f.Result = r.typeAs()
	f.Body = r.enclosed()
	r.need(";")
	return f
}

func (r *reader) param() api.Param {
	p := api.Param{Name: r.variable()}
	p.Type = r.typeAs()
	return p
}

// typeAs reads the type behind as; without that it is any.
func (r *reader) typeAs() api.SeqType {
	if !r.take("as") {
		return anything
	}
	return r.typed()
}

// typed reads a type.
func (r *reader) typed() api.SeqType {
	if r.take("empty-sequence", "(", ")") {
		return api.SeqType{Item: api.NoItem, Occ: api.Star}
	}
	t := r.itemType()
	switch {
	case r.take("?"):
		t.Occ = api.Opt
	case r.take("*"):
		t.Occ = api.Star
	case r.take("+"):
		t.Occ = api.Plus
	}
	return t
}

// itemType reads what the items of a type are.
func (r *reader) itemType() api.SeqType {
	if r.take("item", "(", ")") {
		return api.SeqType{Item: api.AnyItem}
	}
	if k, ok := r.kind(); ok {
		return api.SeqType{Item: k.item, Name: r.inKind(k)}
	}
	return r.atomType()
}

// atomType reads the type of one atomic value.
func (r *reader) atomType() api.SeqType {
	name := r.name()
	for _, t := range atomTypes {
		if t.word == name {
			return api.SeqType{Item: t.item}
		}
	}
	r.fail()
	return api.SeqType{}
}

// kind is which test with parentheses stands next; false, if none does.
func (r *reader) kind() (kind, bool) {
	if r.word(1) != "(" {
		return kind{}, false
	}
	word := r.word(0)
	for _, k := range kinds {
		if k.word == word {
			return k, true
		}
	}
	return kind{}, false
}

// inKind reads a test with parentheses: the name in them, if there is one.
func (r *reader) inKind(k kind) string {
	r.need(k.word, "(")
	name := ""
	if k.named() && !r.take("*") && !r.ahead(")") {
		name = r.plain()
	}
	r.need(")")
	return name
}
