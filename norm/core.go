package norm

import (
	"slices"

	"espalier/api"
)

// query is what the core of an expression hangs on beside itself: the functions that are declared.
type query struct {
	funcs []api.Func
}

// core brings an expression down.
func (q query) core(e api.Expr) api.Expr {
	e, step := q.walked(e)
	return alone(e, step)
}

// cores brings expressions down, each by itself.
func (q query) cores(all []api.Expr) []api.Expr {
	kids, _ := q.but(nowhere, all)
	return kids
}

// nowhere is the place of none of many expressions.
const nowhere = -1

// but brings expressions down, each by itself but for the one that a path may walk to: is that a step?
func (q query) but(walked int, all []api.Expr) (kids []api.Expr, step bool) {
	for i, e := range all {
		core, is := q.walked(e)
		if i == walked {
			step = is
		} else {
			core = alone(core, is)
		}
		kids = append(kids, core)
	}
	return kids, step
}

// alone is the core of an expression that no path walks to, for a step the path that walks to it from where one is.
func alone(core api.Expr, step bool) api.Expr {
	if !step {
		return core
	}
	return of(api.Path, api.Expr{Op: api.Dot}, core)
}

// walked brings an expression down that a path may walk to: is it a step? Whether it is one is told beside its core, for asking each of many filters anew would take long.
func (q query) walked(e api.Expr) (core api.Expr, step bool) {
	switch e.Op {
	case api.Filter:
		e.Kids, step = q.but(0, e.Kids)
		return e, step
	case api.Path:
		e.Kids, _ = q.but(1, e.Kids)
		return e, false
	case api.Call:
		return q.call(e), false
	case api.Flwor:
		return q.flwor(e), false
	case api.MakeElem, api.MakeAttr:
		return q.computed(e), false
	case api.Direct:
		return q.direct(e), false
	}
	e.Kids = q.cores(e.Kids)
	return e, e.Op == api.Step
}

// call brings a Call down. No function of the query has the name of one that is there, and no other one has more or fewer Kids than it takes, for its names are right.
func (q query) call(e api.Expr) api.Expr {
	e.Kids = q.cores(e.Kids)
	if t := atomType(e.Name); t != api.NoItem {
		return api.Expr{Op: api.Cast, Type: api.SeqType{Item: t, Occ: api.Opt}, Kids: e.Kids}
	}
	if len(e.Kids) == 0 && ofDot(e.Name) {
		e.Kids = []api.Expr{{Op: api.Dot}}
	}
	declared := slices.IndexFunc(q.funcs, func(f api.Func) bool {
		return f.Name == e.Name && len(f.Params) == len(e.Kids)
	})
	if declared >= 0 {
		for i, p := range q.funcs[declared].Params {
			e.Kids[i] = convert(p.Type, e.Kids[i])
		}
	}
	return e
}

// atomType is what the function of this name makes of a value; NoItem, if it is no type.
func atomType(name string) api.ItemKind {
	switch name {
	case "xs:integer":
		return api.IntItem
	case "xs:decimal":
		return api.DecItem
	case "xs:string":
		return api.StrItem
	case "xs:boolean":
		return api.BoolItem
	case "xs:untypedAtomic":
		return api.UntItem
	}
	return api.NoItem
}

// ofDot tells whether the function of this name, called without an argument, asks of the item that is looked at.
func ofDot(name string) bool {
	switch name {
	case "string", "string-length", "normalize-space", "name", "root":
		return true
	}
	return false
}

// convert makes an expression what a declared type asks for; what may be anything asks for nothing.
func convert(t api.SeqType, e api.Expr) api.Expr {
	if t == (api.SeqType{Item: api.AnyItem, Occ: api.Star}) {
		return e
	}
	return api.Expr{Op: api.Convert, Type: t, Kids: []api.Expr{e}}
}

// of is an expression of these Kids.
func of(op api.Op, kids ...api.Expr) api.Expr {
	return api.Expr{Op: op, Kids: kids}
}

// value is the expression for a value.
func value(a api.Atom) api.Expr {
	return api.Expr{Op: api.Lit, Val: a}
}

// text is the expression for a Str.
func text(s string) api.Expr {
	return value(api.Atom{Kind: api.Str, S: s})
}
