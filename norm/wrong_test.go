package norm_test

import (
	"math"
	"math/rand"
	"slices"
	"strings"
	"testing"

	"espalier/api"
	"espalier/norm"
)

// wrongModule is a query with this as its Body, a Global's, and a Func's, where all names of the tests are bound.
func wrongModule(e api.Expr) api.Module {
	bound := func(name string) api.Global { return api.Global{Name: name, Body: number(1)} }
	return api.Module{
		Globals: []api.Global{bound("x"), bound(""), {Name: "g", Type: api.SeqType{Item: 99, Occ: -1}, Body: e}},
		Funcs:   []api.Func{{Name: "local:f", Params: []api.Param{{Name: "x"}, {Name: ""}}, Body: e}, {Name: "local:", Body: number(1)}},
		Body:    e,
	}
}

// What Parse does not answer: of that nothing is promised but that the call ends. Did Check find nothing wrong?
func endsOf(e api.Expr) bool {
	_, err := norm.Core(wrongModule(e))
	return err == api.OK
}

// Each kind of expression, and such as are none, with too few and too many Kids of each kind, where it may stand and where not.
func TestP131WrongKids(t *testing.T) {
	t.Parallel()
	ends := 0
	for op := -1; op <= api.Ops; op++ {
		for kid := -1; kid <= api.Ops; kid++ {
			for count := range 7 {
				e := named(api.Op(op), "x", slices.Repeat([]api.Expr{named(api.Op(kid), "x")}, count)...)
				wraps := []api.Expr{e, expr(api.Path, number(1), e), expr(api.Filter, e), named(api.Direct, "a", e), expr(api.Flwor, e), expr(api.Flwor, e, e), expr(api.Flwor, named(api.For, "y"), e, e), expr(api.Flwor, named(api.For, "y"), expr(api.Where), e, e), expr(api.DirAttr, e)}
				for _, w := range wraps {
					if endsOf(w) {
						ends++
					}
					if got, want := norm.IsCore(w), judged(w, ""); got != want {
						t.Errorf("IsCore of %s: %v", show(w), got)
					}
				}
			}
		}
	}
	if ends < 100000 {
		t.Errorf("only %d have names that are right", ends)
	}
}

// Flwors of each row of some clauses, with Kids and without, and without what is returned.
func TestP131WrongFlwors(t *testing.T) {
	t.Parallel()
	parts := []api.Expr{expr(api.Order), expr(api.Order, number(1)), expr(api.Order, number(1), number(2)), named(api.For, "x"), named(api.For, "y", number(1), number(2)), expr(api.Where), expr(api.Where, number(1), number(2)), named(api.Let, ""), expr(api.Flwor), number(1), {}}
	ends := 0
	for count := range 6 {
		for _, digits := range rowsOf("0123456789a", count) {
			e := expr(api.Flwor)
			for _, d := range digits {
				e.Kids = append(e.Kids, parts[strings.IndexRune("0123456789a", d)])
			}
			if endsOf(e) {
				ends++
			}
		}
	}
	if ends < 10000 {
		t.Errorf("only %d have names that are right", ends)
	}
}

// wrongTree is a tree of all that there is, however it lies in itself.
func wrongTree(r *rand.Rand, room int) api.Expr {
	names := []string{"x", "", "x", "string", "xs:integer", "count", "local:f", "local:", "\xff", "true", "concat"}
	name := func() string { return names[r.Intn(len(names))] }
	ops := []api.Op{api.Flwor, api.For, api.Let, api.Where, api.Order, api.Direct, api.DirAttr, api.Path, api.Filter, api.Step, api.Lit, api.Var, api.MakeElem, api.MakeAttr, api.Seq}
	e := api.Expr{
		Op: api.Op(r.Intn(api.Ops+4) - 2), Name: name(), Val: api.Atom{Kind: api.AtomKind(r.Intn(9) - 1), N: -1, Scale: 99, S: name(), B: true},
		Type: api.SeqType{Item: api.ItemKind(r.Intn(16) - 1), Name: name(), Occ: api.Occ(r.Intn(6) - 1)}, Axis: api.Axis(r.Intn(13) - 1), Test: api.Test{Kind: api.TestKind(r.Intn(10) - 1), Name: name()}, Down: r.Intn(2) == 0,
	}
	if r.Intn(3) > 0 {
		e.Op = ops[r.Intn(len(ops))]
	}
	if r.Intn(9) == 0 {
		e.At = name()
	}
	if r.Intn(99) == 0 {
		e.Op = []api.Op{math.MinInt, math.MaxInt}[r.Intn(2)]
	}
	for room > 0 && len(e.Kids) < 6 && r.Intn(5) > 0 {
		size := r.Intn(room)
		e.Kids, room = append(e.Kids, wrongTree(r, size)), room-size-1
	}
	return e
}

func TestP131WrongTrees(t *testing.T) {
	t.Parallel()
	r := rand.New(rand.NewSource(131))
	ends, core := 0, 0
	for i := range 60000 {
		e := wrongTree(r, i%40)
		if endsOf(e) {
			ends++
		}
		want := judged(e, "")
		if want {
			core++
		}
		holdCore(t, e, want)
	}
	if ends < 10000 || core < 1000 {
		t.Errorf("of %d the names are right, and %d are core", ends, core)
	}
}

// Queries without what each query has.
func TestP131Nothing(t *testing.T) {
	for _, m := range []api.Module{{}, {Globals: make([]api.Global, 1)}, {Globals: []api.Global{{Name: "a"}, {Name: "b"}}}, {Funcs: []api.Func{{Name: "local:f"}, {Name: "local:g", Params: make([]api.Param, 1)}}}, {Funcs: make([]api.Func, 1)}} {
		norm.Core(m)
	}
}
