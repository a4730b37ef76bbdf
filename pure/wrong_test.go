package pure_test

import (
	"math"
	"math/rand"
	"slices"
	"testing"

	"espalier/api"
	"espalier/scope"
)

// holdWrong holds what is said of any tree: as free as scope tells are the names that are used, and behind Put of a Lit there are none.
func holdWrong(t *testing.T, e api.Expr, names ...string) {
	t.Helper()
	if got, want := tell(t, e), judged(e); got != want {
		t.Fatalf("%s: %+v, not %+v", show(e), got, want)
	}
	if got, want := sizeOf(t, e), len(parts(e)); got != want {
		t.Fatalf("Size of %s: %d, not %d", show(e), got, want)
	}
	free := scope.Free(tidy(e))
	for _, name := range names {
		uses := usesOf(t, name, e)
		isFree, tidyUses := slices.Contains(free, name), usesOf(t, name, tidy(e))
		if isFree != (tidyUses > 0) {
			t.Fatalf("%s: %d uses of %q, free %v", show(tidy(e)), tidyUses, name, isFree)
		}
		got := putIn(t, e, name, number(5))
		if left := usesOf(t, name, got); left != 0 {
			t.Fatalf("%s: %d uses of %q behind Put", show(e), left, name)
		}
		if uses == 0 && !same(got, e) {
			t.Fatalf("%s: Put for %q, without uses, changed it: %s", show(e), name, show(got))
		}
		putIn(t, e, name, e)
	}
}

// tidy is a tree whose clauses have no names but a For's and a Let's: of what others bind layer 12 says nothing.
func tidy(e api.Expr) api.Expr {
	var kids []api.Expr
	for i, kid := range e.Kids {
		kid = tidy(kid)
		if e.Op == api.Flwor && i < len(e.Kids)-1 && kid.Op != api.For && kid.Op != api.Let {
			kid.Name, kid.At = "", ""
		}
		kids = append(kids, kid)
	}
	e.Kids = kids
	return e
}

// Each kind of expression, and such as are none, with too few and too many Kids of each kind.
func TestP161WrongKids(t *testing.T) {
	t.Parallel()
	for op := -1; op <= api.Ops; op++ {
		for kid := -1; kid <= api.Ops; kid++ {
			for count := range 5 {
				for _, name := range []string{"x", "count", "last"} {
					holdWrong(t, named(api.Op(op), name, slices.Repeat([]api.Expr{named(api.Op(kid), name)}, count)...), name)
					if op != int(api.Call) && kid != int(api.Call) {
						break
					}
				}
			}
		}
	}
}

// wrongTree is a tree of all that there is, however it lies in itself.
func wrongTree(r *rand.Rand, room int) api.Expr {
	names := []string{"x", "", "y", "x", "data", "count", "local:f", "\xff", "true", "position", "last"}
	name := func() string { return names[r.Intn(len(names))] }
	e := api.Expr{
		Op: api.Op(r.Intn(api.Ops+4) - 2), Name: name(), Val: api.Atom{Kind: api.AtomKind(r.Intn(9) - 1), N: -1, Scale: 99, S: name(), B: true},
		Type: api.SeqType{Item: api.ItemKind(r.Intn(16) - 1), Name: name(), Occ: api.Occ(r.Intn(6) - 1)}, Axis: api.Axis(r.Intn(13) - 1), Test: api.Test{Kind: api.TestKind(r.Intn(10) - 1), Name: name()}, Down: r.Intn(2) == 0,
	}
	if r.Intn(3) == 0 {
		e.Op = []api.Op{api.Var, api.For, api.Let, api.Flwor, api.Case, api.Path, api.Seq, api.Lit}[r.Intn(8)]
	}
	if r.Intn(9) == 0 {
		e.At = name()
	}
	if r.Intn(99) == 0 {
		e.Op = []api.Op{math.MinInt, math.MaxInt}[r.Intn(2)]
	}
	for room > 0 && len(e.Kids) < 6 && r.Intn(5) > 0 {
		size := r.Intn(room)
		e.Kids, room = append(e.Kids, wrongTree(r, size)), room-size-1
	}
	return e
}

func TestP161WrongTrees(t *testing.T) {
	t.Parallel()
	r := rand.New(rand.NewSource(161))
	for i := range 10000 {
		holdWrong(t, wrongTree(r, i%30), "x", "", "y", "nowhere")
	}
}

// Expressions as they are read, with the scopes that layer 12 says of them.
func TestP161Read(t *testing.T) {
	for _, b := range binders {
		for i, in := range b.inside {
			for _, f := range fillings {
				s := filled(b.text, len(b.inside), only(i, f.text))
				e, want := read(t, s), f.uses
				if in {
					want = 0
				}
				holdUses(t, s, "v", e, want)
				put := f.put
				if in {
					put = f.text
				}
				holdPut(t, e, "v", number(5), read(t, filled(b.text, len(b.inside), only(i, put))))
			}
		}
	}
}

// No name is asked for, none is there, and no expression.
func TestP161Nothing(t *testing.T) {
	holdWrong(t, api.Expr{}, "", "x")
	holdWrong(t, api.Expr{Kids: make([]api.Expr, 3)}, "", "x")
	holdUses(t, "nothing", "", api.Expr{}, 0)
}
