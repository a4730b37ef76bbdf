package infer_test

import (
	"math"
	"math/rand"
	"slices"
	"testing"

	"espalier/api"
	"espalier/infer"
)

// ends calls both functions with what Core does not answer: of that nothing is promised but that they end.
func ends(e api.Expr) {
	odd := api.SeqType{Item: 99, Name: "\xff", Occ: -1}
	vars := []api.Param{{Name: "x", Type: odd}, {Name: "", Type: api.SeqType{Item: -1, Occ: 99}}}
	m := api.Module{
		Globals: []api.Global{{Name: "x", Type: odd, Body: e}, {Body: e}},
		Funcs:   []api.Func{{Name: "local:f", Params: vars, Result: odd, Body: e}, {Name: "x", Result: odd}, {Name: "count", Params: vars[:1], Result: odd}},
		Body:    e,
	}
	infer.Expr(m, vars, e)
	infer.Expr(api.Module{}, nil, e)
	infer.Module(m)
}

// Each kind of expression, and such as are none, with too few and too many Kids of each kind.
func TestP151WrongKids(t *testing.T) {
	t.Parallel()
	for op := -1; op <= api.Ops; op++ {
		for kid := -1; kid <= api.Ops; kid++ {
			for count := range 6 {
				for _, name := range []string{"x", "count", "sum", "insert-before", "subsequence", "error", "concat", "exactly-one"} {
					ends(named(api.Op(op), name, slices.Repeat([]api.Expr{named(api.Op(kid), name)}, count)...))
					if op != int(api.Call) && kid != int(api.Call) {
						break
					}
				}
			}
		}
	}
}

// wrongTree is a tree of all that there is, however it lies in itself.
func wrongTree(r *rand.Rand, room int) api.Expr {
	names := []string{"x", "", "y", "string", "data", "count", "local:f", "insert-before", "\xff", "true", "concat", "one-or-more"}
	name := func() string { return names[r.Intn(len(names))] }
	e := api.Expr{
		Op: api.Op(r.Intn(api.Ops+4) - 2), Name: name(), Val: api.Atom{Kind: api.AtomKind(r.Intn(9) - 1), N: -1, Scale: 99, S: name(), B: true},
		Type: api.SeqType{Item: api.ItemKind(r.Intn(16) - 1), Name: name(), Occ: api.Occ(r.Intn(6) - 1)}, Axis: api.Axis(r.Intn(13) - 1), Test: api.Test{Kind: api.TestKind(r.Intn(10) - 1), Name: name()}, Down: r.Intn(2) == 0,
	}
	if r.Intn(9) == 0 {
		e.At = name()
	}
	if r.Intn(99) == 0 {
		e.Op = []api.Op{math.MinInt, math.MaxInt}[r.Intn(2)]
		e.Type.Item, e.Type.Occ = math.MaxInt, math.MinInt
	}
	for room > 0 && len(e.Kids) < 6 && r.Intn(5) > 0 {
		size := r.Intn(room)
		e.Kids, room = append(e.Kids, wrongTree(r, size)), room-size-1
	}
	return e
}

func TestP151WrongTrees(t *testing.T) {
	t.Parallel()
	r := rand.New(rand.NewSource(151))
	for i := range 60000 {
		ends(wrongTree(r, i%40))
	}
}

// Types that aren't right, each at each place where one may stand.
func TestP151WrongTypes(t *testing.T) {
	for _, item := range []api.ItemKind{math.MinInt, -1, 14, 99, math.MaxInt} {
		for _, occ := range []api.Occ{math.MinInt, -1, 0, 3, 4, math.MaxInt} {
			odd := api.SeqType{Item: item, Name: "\xff", Occ: occ}
			vars, es := operands(odd, odd)
			for op := -1; op <= api.Ops; op++ {
				for _, e := range []api.Expr{expr(api.Op(op), es...), typed(api.Op(op), odd, es...), expr(api.Op(op), es[0], typed(api.Case, odd, es[1]), es[0]), expr(api.Op(op), es[0], es[1], es[0], es[1])} {
					infer.Expr(api.Module{}, vars, e)
				}
			}
			for _, f := range append(fixedNames(), "data", "distinct-values", "reverse", "exactly-one") {
				infer.Expr(api.Module{}, vars, named(api.Call, f, es[0]))
			}
		}
	}
}

// Queries without what each query has.
func TestP151Nothing(t *testing.T) {
	ends(api.Expr{})
	for _, m := range []api.Module{{}, {Globals: make([]api.Global, 1)}, {Globals: []api.Global{{Name: "a"}, {Name: "b"}}}, {Funcs: []api.Func{{Name: "local:f"}, {Name: "local:f", Params: make([]api.Param, 1)}}}, {Funcs: make([]api.Func, 1)}} {
		infer.Module(m)
	}
}
