package opt

import (
	"espalier/api"
	"espalier/atom"
	"espalier/dec"
)

// reckonings are those upon numbers, from Add to Mod in the order of their Ops.
func reckonings() [6]func(a, b dec.Num) (dec.Num, api.Errno) {
	return [...]func(a, b dec.Num) (dec.Num, api.Errno){dec.Add, dec.Sub, dec.Mul, dec.Div, dec.IDiv, dec.Mod}
}

// number is the number as which a value is reckoned with. ErrType, ErrCast, ErrOver.
func number(a api.Atom) (api.Atom, api.Errno) {
	switch {
	case a.Kind == api.Untyped:
		return atom.Cast(a, api.Dec)
	case atom.Numeric(a):
		return a, api.OK
	}
	return api.Atom{}, api.ErrType
}

// isWhole tells whether what comes of two numbers is an Int.
func isWhole(op api.Op, a, b api.Atom) bool {
	switch op {
	case api.IDiv:
		return true
	case api.Div:
		return false
	}
	return a.Kind == api.Int && b.Kind == api.Int
}
