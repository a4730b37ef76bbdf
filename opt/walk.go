package opt

import (
	"slices"

	"espalier/api"
)

// walk goes over an expression once, and makes it simpler on the way.
type walk struct {
	// known are the values for which the variables in scope stand, of each name the innermost last; nil where a run alone tells the value.
	known map[string][]*api.Atom
}

func newWalk() *walk {
	return &walk{map[string][]*api.Atom{}}
}

// expr makes an expression simpler.
func (w *walk) expr(e api.Expr) api.Expr {
	switch e.Op {
	case api.Var:
		return w.variable(e)
	case api.For, api.Let, api.Order, api.Some, api.Every:
		return w.binder(e)
	case api.Case:
		e.Kids = w.bound(e, nil, func() []api.Expr { return w.each(e.Kids) })
		return e
	}
	e.Kids = w.each(e.Kids)
	return folded(e)
}

// each makes expressions simpler, one by one.
func (w *walk) each(es []api.Expr) []api.Expr {
	all := slices.Grow([]api.Expr(nil), len(es))
	for _, e := range es {
		all = append(all, w.expr(e))
	}
	return all
}

// variable is what a variable stands for, if that is known.
func (w *walk) variable(e api.Expr) api.Expr {
	if values := w.known[e.Name]; len(values) > 0 && values[len(values)-1] != nil {
		return literal(*values[len(values)-1])
	}
	e.Kids = w.each(e.Kids)
	return e
}

// binder makes an expression simpler that binds variables in all its Kids but the first. Of a Let of a Lit what it returns is left.
func (w *walk) binder(e api.Expr) api.Expr {
	if len(e.Kids) == 0 {
		e.Kids = nil
		return e
	}
	first := w.expr(e.Kids[0])
	var value *api.Atom
	if e.Op == api.Let && first.Op == api.Lit {
		value = &first.Val
	}
	rest := w.bound(e, value, func() []api.Expr { return w.each(e.Kids[1:]) })
	if value != nil && len(rest) == 1 {
		return rest[0]
	}
	e.Kids = append([]api.Expr{first}, rest...)
	return e
}

// bound is what within makes while the variables of an expression are in scope, its Name standing for a value, if there is one. An At that isn't there counts as a name of which nothing is known: no Var asks for it.
func (w *walk) bound(e api.Expr, value *api.Atom, within func() []api.Expr) []api.Expr {
	w.begin(e.Name, value)
	w.begin(e.At, nil)
	es := within()
	w.end(e.At)
	w.end(e.Name)
	return es
}

// begin begins the scope of a variable.
func (w *walk) begin(name string, value *api.Atom) {
	w.known[name] = append(w.known[name], value)
}

// end ends the scope of a variable that was begun last.
func (w *walk) end(name string) {
	values := w.known[name]
	w.known[name] = values[:len(values)-1]
}
