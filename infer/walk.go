package infer

import (
	"espalier/api"
	"espalier/types"
)

// walk goes over expressions, each once: what is in scope where it is, and whether it came upon a clash.
type walk struct {
	funcs []api.Func
	vars  map[string]api.SeqType
	clash bool
}

// newWalk is a walk with these variables in scope, of one name the last.
func newWalk(funcs []api.Func, vars ...api.Param) *walk {
	w := walk{funcs: funcs, vars: map[string]api.SeqType{}}
	for _, v := range vars {
		w.vars[v.Name] = v.Type
	}
	return &w
}

// bound is what find finds while these variables are in scope, too, of one name the last. Behind it those that they hid are there again.
func (w *walk) bound(find func() api.SeqType, vars ...api.Param) api.SeqType {
	if len(vars) == 0 {
		return find()
	}
	name := vars[0].Name
	was, hidden := w.vars[name]
	w.vars[name] = vars[0].Type
	t := w.bound(find, vars[1:]...)
	if hidden {
		w.vars[name] = was
	} else {
		delete(w.vars, name)
	}
	return t
}

// expr is an expression's type.
func (w *walk) expr(e api.Expr) api.SeqType {
	switch e.Op {
	case api.Var:
		return w.variable(e.Name)
	case api.For, api.Let, api.Order, api.Some, api.Every:
		return w.binder(e)
	case api.Switch:
		return w.choice(e)
	}
	return w.simple(e, w.each(e.Kids...)...)
}

// each are the types of expressions.
func (w *walk) each(es ...api.Expr) []api.SeqType {
	var ts []api.SeqType
	for _, e := range es {
		ts = append(ts, w.expr(e))
	}
	return ts
}

// last is the type of the last of some expressions; the others are looked at for clashes.
func (w *walk) last(es ...api.Expr) api.SeqType {
	return typeAt(w.each(es...), len(es)-1)
}

// variable is the type of a variable: of one that nothing is known of any.
func (w *walk) variable(name string) api.SeqType {
	if t, ok := w.vars[name]; ok {
		return t
	}
	return api.SeqType{Item: api.AnyItem, Occ: api.Star}
}

// binder is the type of an expression whose variables are in scope in all its Kids but the first.
func (w *walk) binder(e api.Expr) api.SeqType {
	if len(e.Kids) == 0 {
		return nothing()
	}
	in := w.expr(e.Kids[0])
	back := w.bound(func() api.SeqType { return w.last(e.Kids[1:]...) }, variables(e, in)...)
	switch e.Op {
	case api.For:
		return types.Times(in, back)
	case api.Let:
		return back
	case api.Order:
		// What is kept of in is as many items or fewer.
		kept := types.Times(in, api.SeqType{Item: api.AnyItem, Occ: api.Opt})
		return types.Times(kept, back)
	}
	return one(api.BoolItem)
}

// variables are those that an expression binds, its first Kid being of this type. One without a name is asked for by no Var.
func variables(e api.Expr, in api.SeqType) []api.Param {
	if e.Op == api.Let {
		return []api.Param{{Name: e.Name, Type: in}}
	}
	return []api.Param{{Name: e.Name, Type: some(in, api.One)}, {Name: e.At, Type: one(api.IntItem)}}
}

// choice is the type of a Switch.
func (w *walk) choice(e api.Expr) api.SeqType {
	var operand api.SeqType
	var back []api.SeqType
	for i, kid := range e.Kids {
		if i == 0 {
			operand = w.expr(kid)
			continue
		}
		v := api.Param{Name: kid.Name, Type: kid.Type}
		if i == len(e.Kids)-1 {
			// The last Case takes all that is left, whatever its Type.
			v.Type = operand
		}
		back = append(back, w.bound(func() api.SeqType { return w.last(kid.Kids...) }, v))
	}
	return types.Either(back...)
}
