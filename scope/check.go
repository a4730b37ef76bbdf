package scope

import (
	"slices"
	"strings"

	"espalier/api"
)

// declared is what is wrong first with what a query declares, but for the expressions in it.
func declared(m api.Module) api.Errno {
	if len(m.Funcs) > api.MaxFuncs {
		return api.ErrLong
	}
	for i, f := range m.Funcs {
		if err := header(f, m.Funcs[:i]); err != api.OK {
			return err
		}
	}
	globals := names{}
	for _, g := range m.Globals {
		if globals[g.Name] > 0 {
			return api.ErrRedo
		}
		globals[g.Name]++
	}
	return api.OK
}

// header is what is wrong first with a function but for its Body; those ahead of it are declared already.
func header(f api.Func, ahead []api.Func) api.Errno {
	switch {
	case !strings.HasPrefix(f.Name, "local:"):
		return api.ErrFunc
	case has(ahead, f.Name, len(f.Params)):
		return api.ErrRedo
	case len(f.Params) > api.MaxParams:
		return api.ErrLong
	case twice(f.Params):
		return api.ErrRedo
	}
	return api.OK
}

// has tells whether one of the functions has this name and takes so many arguments.
func has(fs []api.Func, name string, args int) bool {
	return slices.ContainsFunc(fs, func(f api.Func) bool {
		return f.Name == name && len(f.Params) == args
	})
}

// twice tells whether two parameters have one name.
func twice(ps []api.Param) bool {
	met := names{}
	return slices.ContainsFunc(ps, func(p api.Param) bool {
		met[p.Name]++
		return met[p.Name] > 1
	})
}

// first is what is wrong first in an expression, where these names are bound and these functions are declared.
func first(e api.Expr, bound names, fs []api.Func) api.Errno {
	err := api.OK
	walk(e, bound, func(e api.Expr) {
		if err == api.OK {
			err = fault(e, bound, fs)
		}
	})
	return err
}

// fault is what is wrong with an expression itself, whatever its Kids are.
func fault(e api.Expr, bound names, fs []api.Func) api.Errno {
	switch {
	case e.Op == api.Var && bound[e.Name] == 0:
		return api.ErrName
	case e.Op == api.Call && !Known(e.Name, len(e.Kids)) && !has(fs, e.Name, len(e.Kids)):
		return api.ErrFunc
	case e.Op == api.For && e.At != "" && e.At == e.Name:
		return api.ErrRedo
	case e.Op == api.Flwor && !orderly(e.Kids):
		return api.ErrSyntax
	}
	return api.OK
}

// orderly tells whether there is no Order among the clauses, or behind one For, or behind one For and a Where.
func orderly(clauses []api.Expr) bool {
	at := slices.IndexFunc(clauses, func(e api.Expr) bool { return e.Op == api.Order })
	switch at {
	case -1:
		return true
	case 1:
		return clauses[0].Op == api.For
	case 2:
		return clauses[0].Op == api.For && clauses[1].Op == api.Where
	}
	return false
}
