package pure_test

import (
	"slices"
	"strings"

	"espalier/api"
)

// part is an expression within another one: what is around it, from the outside in, and which Kid of that it is or lies in.
type part struct {
	*api.Expr
	around []*api.Expr
	kids   []int
}

// parts are all the expressions in an expression, itself ahead of its Kids.
func parts(e api.Expr) []part {
	all := []part{{Expr: &e}}
	for next := 0; next < len(all); next++ {
		p := all[next]
		for i := range p.Kids {
			all = append(all, part{&p.Kids[i], append(slices.Clone(p.around), p.Expr), append(slices.Clone(p.kids), i)})
		}
	}
	return all
}

// within tells whether one of those around a part, and the Kid that the part lies in, are so.
func (p part) within(so func(e api.Expr, kid int) bool) bool {
	for i, e := range p.around {
		if so(*e, p.kids[i]) {
			return true
		}
	}
	return false
}

// isThere tells whether a Call is one of a function that is there.
func isThere(e api.Expr) bool {
	for _, b := range builtin {
		for _, name := range strings.Fields(b.names) {
			if name == e.Name && b.least <= len(e.Kids) && len(e.Kids) <= b.most {
				return true
			}
		}
	}
	return false
}

// isLeaf tells whether the Kids of an expression say nothing of whether it is safe.
func isLeaf(e api.Expr, _ int) bool { return e.Op == api.Lit || e.Op == api.Var }

// hasOwnFocus tells whether a Kid looks at another focus than the one around the expression.
func hasOwnFocus(e api.Expr, kid int) bool {
	return kid == 1 && (e.Op == api.Path || e.Op == api.Filter)
}

// judged is what is to be told of an expression: each part by itself is as its words say, and by what is around it counts or doesn't.
func judged(e api.Expr) told {
	want := told{safe: true}
	for _, p := range parts(e) {
		switch p.Op {
		case api.Lit, api.Var, api.Seq, api.Instance, api.Castable, api.Let, api.For:
		case api.Call:
			if isThere(*p.Expr) && slices.Contains(harmless, p.Name) {
				break
			}
			fallthrough
		default:
			if !p.within(isLeaf) {
				want.safe = false
			}
		}
		isFresh := p.Op >= api.MakeElem && p.Op <= api.MakeDoc || p.Op == api.Call && !isThere(*p.Expr)
		want.fresh = want.fresh || isFresh
		atFocus := p.Op == api.Dot || p.Op == api.Root || p.Op == api.Step || p.Op == api.Call && (p.Name == "position" || p.Name == "last")
		want.focus = want.focus || atFocus && !p.within(hasOwnFocus)
	}
	return want
}

// judgedUses are the uses of a name: which Kid of which Kid each is.
func judgedUses(name string, e api.Expr) [][]int {
	binds := func(e api.Expr, kid int) bool {
		switch e.Op {
		case api.For, api.Order:
			return kid > 0 && (e.Name == name || e.At == name)
		case api.Let, api.Some, api.Every:
			return kid > 0 && e.Name == name
		case api.Case:
			return e.Name == name
		}
		return false
	}
	var uses [][]int
	for _, p := range parts(e) {
		if p.Op == api.Var && p.Name == name && !p.within(binds) {
			uses = append(uses, p.kids)
		}
	}
	return uses
}

// judgedPut is a tree in which a Lit stands in some places.
func judgedPut(e api.Expr, places [][]int, lit api.Expr) api.Expr {
	e = apart(e)
	for _, place := range places {
		at := &e
		for _, kid := range place {
			at = &at.Kids[kid]
		}
		*at = lit
	}
	return e
}
