package opt

import (
	"espalier/api"
	"espalier/atom"
	"espalier/cmp"
)

// folded is an expression whose Kids are simple already, or the Lit of its value, where they tell that.
func folded(e api.Expr) api.Expr {
	if value, ok := told(e); ok {
		return literal(value)
	}
	return e
}

// told is an expression's value: do its Kids tell it, and no error?
func told(e api.Expr) (api.Atom, bool) {
	if e.Op == api.If && len(e.Kids) == 3 {
		return way(e.Kids[0], e.Kids[1], e.Kids[2])
	}
	for _, kid := range e.Kids {
		if kid.Op != api.Lit {
			return api.Atom{}, false
		}
	}
	switch {
	case e.Op == api.Neg && len(e.Kids) == 1:
		return fine(Reckon(api.Sub, atom.Of(0), e.Kids[0].Val))
	case len(e.Kids) == 2:
		return fine(pair(e.Op, e.Kids[0].Val, e.Kids[1].Val))
	}
	return api.Atom{}, false
}

// way is the value of an If: is it known which way is taken, and is that a Lit? Any other way stays within its If: by itself it may have the empty type, which exactly-one around it would take for one that doesn't lie in what its type was.
func way(test, then, otherwise api.Expr) (api.Atom, bool) {
	if test.Op != api.Lit {
		return api.Atom{}, false
	}
	taken := otherwise
	if isTrue, _ := cmp.Truth(false, test.Val); isTrue {
		taken = then
	}
	return taken.Val, taken.Op == api.Lit
}

// pair is what two values are together. The error of Reckon and of Value, ErrArg among them.
func pair(op api.Op, a, b api.Atom) (api.Atom, api.Errno) {
	if op <= api.Mod {
		return Reckon(op, a, b)
	}
	is, err := cmp.Value(op, a, b)
	return atom.Truth(is), err
}

// fine tells whether there was no error.
func fine(value api.Atom, err api.Errno) (api.Atom, bool) {
	return value, err == api.OK
}

// literal is the expression for a value.
func literal(value api.Atom) api.Expr {
	return api.Expr{Op: api.Lit, Val: value}
}
