package scope

import "espalier/api"

// names counts how many that are in scope have a name, for one may hide another.
type names map[string]int

// add counts each name once more, or with -1 once less; no name is none.
func (n names) add(count int, all [2]string) {
	for _, name := range all {
		if name != "" {
			n[name] += count
		}
	}
}

// walk goes over an expression, itself ahead of its Kids, these in order, and tells look of each. Whenever it does, bound holds what is in scope there; in the end it holds what it held.
func walk(e api.Expr, bound names, look func(e api.Expr)) {
	var over func(e api.Expr)
	over = func(e api.Expr) {
		look(e)
		for i, kid := range e.Kids {
			bound.add(1, begin(e, i))
			over(kid)
		}
		for i := range e.Kids {
			bound.add(-1, begin(e, i))
		}
	}
	over(e)
}

// begin are the names whose scope begins with a Kid of an expression, and goes on to its last one.
func begin(e api.Expr, kid int) [2]string {
	binder := api.Expr{}
	switch e.Op {
	case api.Flwor:
		if kid > 0 {
			binder = e.Kids[kid-1]
		}
	case api.For, api.Let, api.Order, api.Some, api.Every:
		// Of a clause that is read there is no such Kid, and nothing begins.
		if kid == 1 {
			binder = e
		}
	case api.Case:
		if kid == 0 {
			binder = e
		}
	}
	return [2]string{binder.Name, binder.At}
}
