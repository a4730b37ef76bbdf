package opt_test

import (
	"math"
	"math/rand"
	"slices"
	"testing"

	"espalier/api"
	"espalier/opt"
)

// ends tells that the calls end, with answers of their own, of anything; what is handed in stays.
func ends(t *testing.T, e api.Expr) {
	t.Helper()
	simplerIn(t, api.Module{}, e)
	m := apartModule(api.Module{Globals: []api.Global{{Name: "x", Body: e}}, Funcs: []api.Func{{Name: "f", Params: make([]api.Param, 2), Body: e}}, Body: e})
	was := apartModule(m)
	got := opt.Module(m)
	met := memory{}
	met.module(m)
	met.module(got)
	if met.shared() || !heldModule(m, was) {
		t.Errorf("Module of %s has changed or kept it", show(e))
	}
}

// Each kind of expression, and such as are none, with too few and too many Kids of each kind.
func TestP172WrongKids(t *testing.T) {
	t.Parallel()
	for op := -1; op <= api.Ops; op++ {
		for _, kid := range []api.Op{-1, 0, api.Lit, api.Var, api.Dot, api.Add, api.If, api.For, api.Let, api.Case, api.Flwor, api.Ops} {
			for count := range 6 {
				for _, name := range []string{"x", ""} {
					inner := api.Expr{Op: kid, Name: name, At: name, Val: whole(1)}
					outer := api.Expr{Op: api.Op(op), Name: name, At: name, Val: whole(1), Kids: slices.Repeat([]api.Expr{inner}, count)}
					ends(t, outer)
					around := outer
					around.Kids = append(slices.Clone(outer.Kids), variable("x"), outer)
					ends(t, around)
				}
			}
		}
	}
}

// wrongTree is a tree of all that there is, however it lies in itself.
func wrongTree(r *rand.Rand, room int) api.Expr {
	names := []string{"x", "", "y", "x", "count", "local:f", "\xff", "position"}
	name := func() string { return names[r.Intn(len(names))] }
	e := api.Expr{
		Op: api.Op(r.Intn(api.Ops+4) - 2), Name: name(), Val: api.Atom{Kind: api.AtomKind(r.Intn(9) - 1), N: r.Intn(5) - 1, Scale: r.Intn(3), S: name(), B: r.Intn(2) == 0},
		Type: api.SeqType{Item: api.ItemKind(r.Intn(16) - 1), Name: name(), Occ: api.Occ(r.Intn(6) - 1)}, Axis: api.Axis(r.Intn(13) - 1), Test: api.Test{Kind: api.TestKind(r.Intn(10) - 1), Name: name()}, Down: r.Intn(2) == 0,
	}
	if r.Intn(2) == 0 {
		e.Op = []api.Op{api.Var, api.For, api.Let, api.Let, api.Lit, api.Lit, api.Case, api.If, api.Add, api.VEq, api.Neg, api.Flwor}[r.Intn(12)]
	}
	if r.Intn(3) == 0 {
		e.Val = values[r.Intn(len(values))]
	}
	if r.Intn(9) == 0 {
		e.At = name()
	}
	if r.Intn(99) == 0 {
		e.Op = []api.Op{math.MinInt, math.MaxInt}[r.Intn(2)]
	}
	for room > 0 && len(e.Kids) < 6 && r.Intn(5) > 0 {
		size := r.Intn(room)
		e.Kids, room = append(e.Kids, wrongTree(r, size)), room-size-1
	}
	return e
}

func TestP172WrongTrees(t *testing.T) {
	t.Parallel()
	r := rand.New(rand.NewSource(172))
	for i := range 10000 {
		ends(t, wrongTree(r, i%30))
	}
}

// Lits of values that aren't right.
func TestP172WrongValues(t *testing.T) {
	wrong := []api.Atom{{}, {Kind: -1}, {Kind: api.Atoms}, whole(top + 1), whole(math.MinInt), dec(10, 1), dec(1, math.MaxInt), raw("\xff"), {Kind: api.Int, N: 1, S: "x"}}
	for op := -1; op <= api.Ops; op++ {
		for _, a := range wrong {
			for _, b := range append(wrong, values...) {
				for _, e := range []api.Expr{expr(api.Op(op), lit(a)), expr(api.Op(op), lit(a), lit(b)), expr(api.Op(op), lit(b), lit(a), lit(b)), named(api.Op(op), "x", lit(a), variable("x"))} {
					opt.Expr(api.Module{}, e)
					opt.Module(api.Module{Body: e})
				}
			}
		}
	}
}

// Queries without what each query has.
func TestP172Nothing(t *testing.T) {
	ends(t, api.Expr{})
	ends(t, api.Expr{Kids: make([]api.Expr, 3)})
	for _, m := range []api.Module{{}, {Globals: make([]api.Global, 2)}, {Funcs: make([]api.Func, 2)}, {Funcs: []api.Func{{Params: make([]api.Param, 3)}}}} {
		if got := opt.Module(m); !sameModule(got, m) {
			t.Errorf("of nothing comes something: %+v", got)
		}
	}
}

// No name is none, so nothing is known of a variable without one.
func TestP172NoNames(t *testing.T) {
	v := variable("")
	for _, e := range []api.Expr{
		named(api.For, "", number(1), v), named(api.Every, "", v, v), named(api.Order, "", number(1), v, v, v), expr(api.Switch, number(1), named(api.Case, "", v)), named(api.Let, "", v, v), {Op: api.For, Name: "x", At: "", Kids: []api.Expr{number(1), v}},
	} {
		if got := simplerIn(t, api.Module{}, e); !same(got, e) {
			t.Errorf("of %s comes %s", show(e), show(got))
		}
	}
	if got := simplerIn(t, api.Module{}, named(api.Let, "", number(1), expr(api.Seq, v, v))); !same(got, expr(api.Seq, v, v)) {
		t.Errorf("of a Let without a name comes %s", show(got))
	}
}

// A value tells something of a Lit alone.
func TestP172ValuesOfOthers(t *testing.T) {
	dot := api.Expr{Op: api.Dot, Val: whole(1)}
	for _, e := range []api.Expr{expr(api.Add, dot, number(1)), expr(api.VEq, number(1), dot), expr(api.Neg, dot), expr(api.If, dot, number(1), number(2)), expr(api.If, yes(), dot, number(1)), named(api.Let, "x", dot, variable("x"))} {
		if got := simplerIn(t, api.Module{}, e); !same(got, e) {
			t.Errorf("of %s comes %s", show(e), show(got))
		}
	}
}
