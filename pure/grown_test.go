package pure_test

import (
	"math/rand"
	"testing"

	"espalier/api"
	"espalier/norm"
	"espalier/pure"
)

// grown makes the core of a seed.
func grown(seed int64) (*grower, api.Expr) {
	g := &grower{Rand: rand.New(rand.NewSource(seed)), room: int(seed % 40), odd: []int{3, 10, 40}[seed%3]}
	return g, g.expr()
}

// Expressions of all kinds one within another: what is told of them is what the judge tells.
func TestP161Grown(t *testing.T) {
	t.Parallel()
	counts := map[told]int{}
	for seed := range int64(10000) {
		_, e := grown(seed)
		if !norm.IsCore(e) {
			t.Fatalf("seed %d: no core: %s", seed, show(e))
		}
		got, want := tell(t, e), judged(e)
		if got != want {
			t.Fatalf("seed %d: %s: %+v, not %+v", seed, show(e), got, want)
		}
		counts[got]++
		if got, want := sizeOf(t, e), len(parts(e)); got != want {
			t.Fatalf("seed %d: Size of %s: %d, not %d", seed, show(e), got, want)
		}
	}
	for _, each := range []told{{safe: true}, {}, {focus: true}, {fresh: true}, {fresh: true, focus: true}} {
		if counts[each] < 100 {
			t.Errorf("%+v: %d", each, counts[each])
		}
	}
}

// Uses are told, and Put puts, as the judge does, of each name.
func TestP162Grown(t *testing.T) {
	t.Parallel()
	counts := map[int]int{}
	for seed := range int64(6000) {
		g, e := grown(seed)
		for _, name := range []string{"x", "y", "nowhere"} {
			places := judgedUses(name, e)
			if got := usesOf(t, name, e); got != len(places) {
				t.Fatalf("seed %d: %d uses of $%s in %s, not %d", seed, got, name, show(e), len(places))
			}
			lit := literals[g.Intn(len(literals))]
			holdPut(t, e, name, lit, judgedPut(e, places, lit))
			if t.Failed() {
				t.Fatalf("seed %d", seed)
			}
			counts[min(len(places), 3)]++
		}
	}
	for uses := range 4 {
		if counts[uses] < 500 {
			t.Errorf("%d have %d uses", counts[uses], uses)
		}
	}
}

// What is told of several expressions is what is told of each, put together.
func TestP161GrownTogether(t *testing.T) {
	t.Parallel()
	for seed := range int64(3000) {
		g, one := grown(seed)
		g.room = 5
		es := append(g.kids(g.Intn(4)), one)
		g.Shuffle(len(es), func(i, j int) { es[i], es[j] = es[j], es[i] })
		want, uses, size := plain, 0, 0
		for _, e := range es {
			want = around(want, tell(t, e), false)
			uses += usesOf(t, "x", e)
			size += sizeOf(t, e)
		}
		if got := tell(t, es...); got != want || usesOf(t, "x", es...) != uses || sizeOf(t, es...) != size {
			t.Fatalf("seed %d: %+v, not %+v; %d uses, not %d; size %d, not %d", seed, got, want, pure.Uses("x", es...), uses, pure.Size(es...), size)
		}
	}
}
