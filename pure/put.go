package pure

import (
	"slices"

	"espalier/api"
)

// isVar tells whether an expression is a variable of this name.
func isVar(e api.Expr, name string) bool { return e.Op == api.Var && e.Name == name }

// open is how many of an expression's Kids, from the first on, see what has this name around it; in the others that is hidden by what the expression binds.
func open(e api.Expr, name string) int {
	switch e.Op {
	case api.For, api.Let, api.Order, api.Some, api.Every:
		if binds(e, name) {
			return min(1, len(e.Kids))
		}
	case api.Case:
		if binds(e, name) {
			return 0
		}
	case api.Flwor:
		// No core has it, but the names that are free are told of it, too (layer 12).
		for i, clause := range e.Kids {
			isBinder := clause.Op == api.For || clause.Op == api.Let
			if isBinder && binds(clause, name) {
				return i + 1
			}
		}
	}
	return len(e.Kids)
}

// binds tells whether an expression that binds names binds this one; no name is none.
func binds(e api.Expr, name string) bool {
	return name != "" && (e.Name == name || e.At == name)
}

// clone is an expression that shares nothing with another one.
func clone(e api.Expr) api.Expr {
	e.Kids = each(e.Kids, clone)
	return e
}

// each are new expressions, made of others one by one.
func each(es []api.Expr, made func(e api.Expr) api.Expr) []api.Expr {
	all := slices.Grow([]api.Expr(nil), len(es))
	for _, e := range es {
		all = append(all, made(e))
	}
	return all
}
