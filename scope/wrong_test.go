package scope_test

import (
	"math"
	"math/rand"
	"slices"
	"testing"

	"espalier/api"
)

// strange makes trees that no text is: of any kind, with any fields and any count of Kids.
func strange(g *rand.Rand, deep int) api.Expr {
	names := []string{"", "a", "b", "count", "local:f", "\xff"}
	e := api.Expr{Op: api.Op(g.Intn(int(api.Ops)+4) - 2), Name: names[g.Intn(len(names))], At: names[g.Intn(len(names))], Down: g.Intn(2) == 0}
	if g.Intn(20) == 0 {
		e.Op = []api.Op{math.MinInt, math.MaxInt, 1 << 32, -1}[g.Intn(4)]
	}
	e.Type = api.SeqType{Item: api.ItemKind(g.Intn(20) - 3), Occ: api.Occ(g.Intn(8) - 2)}
	e.Val = api.Atom{Kind: api.AtomKind(g.Intn(9) - 1)}
	if deep > 0 {
		for range g.Intn(5) {
			e.Kids = append(e.Kids, strange(g, deep-1))
		}
	}
	return e
}

// Of what Parse doesn't answer nothing is promised but that the calls end; they answer errors that they have, and names that are there, each once.
func TestP122Strange(t *testing.T) {
	g := rand.New(rand.NewSource(12))
	errs := []api.Errno{api.OK, api.ErrLong, api.ErrFunc, api.ErrRedo, api.ErrName, api.ErrSyntax}
	for range 3000 {
		m := api.Module{Body: strange(g, g.Intn(6))}
		for range g.Intn(3) {
			m.Globals = append(m.Globals, api.Global{Name: []string{"", "a", "b"}[g.Intn(3)], Body: strange(g, g.Intn(4))})
		}
		for range g.Intn(3) {
			m.Funcs = append(m.Funcs, api.Func{Name: []string{"", "local:", "local:f", "local:g"}[g.Intn(4)], Params: make([]api.Param, g.Intn(3)), Body: strange(g, g.Intn(4))})
		}
		if got := checked(t, m); !slices.Contains(errs, got) {
			t.Errorf("Check: %v", got)
		}
		names := freed(t, m.Body)
		slices.Sort(names)
		if len(slices.Compact(slices.Clone(names))) != len(names) {
			t.Errorf("Free: %q", names)
		}
	}
}

// Each kind with too few Kids, and with too many.
func TestP122FewKids(t *testing.T) {
	for op := api.Op(-1); op <= api.Ops+1; op++ {
		for count := range 6 {
			for _, name := range []string{"", "x"} {
				e := named(op, name)
				e.At = name
				for range count {
					e.Kids = append(e.Kids, variable("x"))
				}
				checked(t, api.Module{Body: e})
				freed(t, e)
				for _, outer := range []api.Op{api.Flwor, api.For, api.Order, api.Switch, api.Case, api.Some} {
					checked(t, api.Module{Body: expr(outer, e, e)})
					freed(t, expr(outer, e, e, e))
				}
			}
		}
	}
	checked(t, api.Module{})
	checked(t, api.Module{Globals: make([]api.Global, 3), Funcs: make([]api.Func, 3)})
	checked(t, api.Module{Funcs: []api.Func{{Name: "local:f", Params: make([]api.Param, 8)}}})
}
