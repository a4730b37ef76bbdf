package types_test

import (
	"math/rand"
	"slices"
	"testing"

	"espalier/api"
	"espalier/parse"
	"espalier/types"
)

// times is what Times answers, twice.
func times(t *testing.T, a, b api.SeqType) api.SeqType {
	t.Helper()
	got := types.Times(a, b)
	if again := types.Times(a, b); again != got {
		t.Errorf("Times: two answers of %v, %v: %v, %v", a, b, got, again)
	}
	return got
}

// holdGathered holds Either and Join of some types to what the judge says.
func holdGathered(t *testing.T, ts ...typed) {
	t.Helper()
	list := row(ts)
	if got, want := either(t, list...), judgedEither(ts...); got != want {
		t.Errorf("Either of %v: %v, not %v", list, got, want)
	}
	if got, want := join(t, list...), judgedJoin(ts...); got != want {
		t.Errorf("Join of %v: %v, not %v", list, got, want)
	}
}

func TestP143OfNoneAndOfOne(t *testing.T) {
	none := of(api.NoItem, api.Star)
	if either(t) != none || join(t) != none {
		t.Errorf("of no type: Either %v, Join %v", either(t), join(t))
	}
	for _, x := range all() {
		want := x.SeqType
		if x.Item == api.NoItem {
			want = none
		}
		if either(t, x.SeqType) != want || join(t, x.SeqType) != want {
			t.Errorf("of %v alone: Either %v, Join %v", x.SeqType, either(t, x.SeqType), join(t, x.SeqType))
		}
		holdGathered(t, x)
	}
}

func TestP143OfAllPairs(t *testing.T) {
	for _, a := range all() {
		for _, b := range all() {
			holdGathered(t, a, b)
			if got, want := times(t, a.SeqType, b.SeqType), judgedTimes(a, b); got != want {
				t.Errorf("Times of %v, %v: %v, not %v", a.SeqType, b.SeqType, got, want)
			}
		}
	}
}

func TestP143OfAllThrees(t *testing.T) {
	t.Parallel()
	for _, a := range all() {
		for _, b := range all() {
			for _, c := range all() {
				holdGathered(t, a, b, c)
			}
		}
	}
}

func TestP143OfMany(t *testing.T) {
	t.Parallel()
	r := rand.New(rand.NewSource(143))
	ts := all()
	for i := range 20000 {
		var some []typed
		few := 1 + r.Intn(4) // of few kinds more often than of all
		first := r.Intn(len(ts))
		for range i % 12 {
			if i%2 == 0 {
				first = r.Intn(len(ts))
			}
			some = append(some, ts[(first+r.Intn(few))%len(ts)])
		}
		holdGathered(t, some...)
	}
}

// NoItems alone, and beside others.
func TestP143NoItems(t *testing.T) {
	none := of(api.NoItem, api.Star)
	for a := range api.Occ(api.Occs) {
		for b := range api.Occ(api.Occs) {
			x, y := of(api.NoItem, a), of(api.NoItem, b)
			if either(t, x, y) != none || join(t, x, y) != none || either(t, x, y, x) != none || join(t, x, y, x) != none || times(t, x, y) != none {
				t.Errorf("of %v, %v: Either %v, Join %v, Times %v", x, y, either(t, x, y), join(t, x, y), times(t, x, y))
			}
		}
	}
	withNone := []api.Occ{api.One: api.Opt, api.Opt: api.Opt, api.Plus: api.Star, api.Star: api.Star}
	for _, k := range kinds()[1:] {
		for o := range api.Occ(api.Occs) {
			for e := range api.Occ(api.Occs) {
				x, empty := named(k.item, k.name, o), of(api.NoItem, e)
				want := of2(x, withNone[o])
				if either(t, x, empty) != want || either(t, empty, x) != want || either(t, empty, x, empty) != want {
					t.Errorf("Either of %v and %v: %v", x, empty, either(t, x, empty))
				}
				if join(t, x, empty) != x || join(t, empty, x) != x || join(t, empty, x, empty) != x {
					t.Errorf("Join of %v and %v: %v", x, empty, join(t, x, empty))
				}
				if times(t, x, empty) != none || times(t, empty, x) != none {
					t.Errorf("Times of %v and %v: %v, %v", x, empty, times(t, x, empty), times(t, empty, x))
				}
			}
		}
	}
}

func TestP143ByHand(t *testing.T) {
	for _, c := range []struct{ a, b, either, join, times string }{
		{"xs:integer", "xs:string?", "xs:anyAtomicType?", "xs:anyAtomicType+", "xs:string?"},
		{"xs:integer", "xs:integer", "xs:integer", "xs:integer+", "xs:integer"},
		{"xs:integer?", "empty-sequence()", "xs:integer?", "xs:integer?", "empty-sequence()"},
		{"xs:integer", "empty-sequence()", "xs:integer?", "xs:integer", "empty-sequence()"},
		{"xs:integer+", "empty-sequence()", "xs:integer*", "xs:integer+", "empty-sequence()"},
		{"xs:integer*", "xs:string", "xs:anyAtomicType*", "xs:anyAtomicType+", "xs:string*"},
		{"xs:integer?", "xs:integer?", "xs:integer?", "xs:integer*", "xs:integer?"},
		{"xs:integer", "xs:integer?", "xs:integer?", "xs:integer+", "xs:integer?"},
		{"xs:integer?", "xs:integer", "xs:integer?", "xs:integer+", "xs:integer?"},
		{"xs:integer+", "xs:integer?", "xs:integer*", "xs:integer+", "xs:integer*"},
		{"xs:integer?", "xs:integer+", "xs:integer*", "xs:integer+", "xs:integer*"},
		{"xs:integer+", "xs:integer", "xs:integer+", "xs:integer+", "xs:integer+"},
		{"xs:integer", "xs:integer+", "xs:integer+", "xs:integer+", "xs:integer+"},
		{"xs:integer+", "xs:integer+", "xs:integer+", "xs:integer+", "xs:integer+"},
		{"xs:integer*", "xs:integer+", "xs:integer*", "xs:integer+", "xs:integer*"},
		{"xs:integer*", "xs:integer?", "xs:integer*", "xs:integer*", "xs:integer*"},
		{"xs:integer*", "xs:integer*", "xs:integer*", "xs:integer*", "xs:integer*"},
		{"xs:integer", "xs:decimal", "xs:decimal", "xs:decimal+", "xs:decimal"},
		{"xs:decimal", "xs:integer", "xs:decimal", "xs:decimal+", "xs:integer"},
		{"xs:untypedAtomic", "xs:string", "xs:anyAtomicType", "xs:anyAtomicType+", "xs:string"},
		{"xs:boolean", "xs:anyAtomicType", "xs:anyAtomicType", "xs:anyAtomicType+", "xs:anyAtomicType"},
		{"element(a)", "element(b)", "element()", "element()+", "element(b)"},
		{"element(a)", "element(a)", "element(a)", "element(a)+", "element(a)"},
		{"element(a)", "element()", "element()", "element()+", "element()"},
		{"element()", "element(a)", "element()", "element()+", "element(a)"},
		{"attribute(a)", "attribute(b)?", "attribute()?", "attribute()+", "attribute(b)?"},
		{"attribute(a)", "element(a)", "node()", "node()+", "element(a)"},
		{"element(a)", "text()", "node()", "node()+", "text()"},
		{"document-node()", "comment()*", "node()*", "node()+", "comment()*"},
		{"text()", "text()?", "text()?", "text()+", "text()?"},
		{"text()", "xs:string", "item()", "item()+", "xs:string"},
		{"xs:integer", "element(a)+", "item()+", "item()+", "element(a)+"},
		{"node()", "xs:anyAtomicType", "item()", "item()+", "xs:anyAtomicType"},
		{"item()", "element(a)", "item()", "item()+", "element(a)"},
	} {
		a, b := read(t, c.a), read(t, c.b)
		if e, j, x := parse.Type(either(t, a, b)), parse.Type(join(t, a, b)), parse.Type(times(t, a, b)); e != c.either || j != c.join || x != c.times {
			t.Errorf("of %s, %s: Either %s, Join %s, Times %s", c.a, c.b, e, j, x)
		}
	}
}

func TestP143SeveralByHand(t *testing.T) {
	for _, c := range []struct {
		ts           []string
		either, join string
	}{
		{[]string{"xs:integer", "xs:integer", "xs:integer"}, "xs:integer", "xs:integer+"},
		{[]string{"xs:integer?", "xs:integer?", "xs:integer?"}, "xs:integer?", "xs:integer*"},
		{[]string{"xs:integer?", "xs:decimal?", "xs:integer"}, "xs:decimal?", "xs:decimal+"},
		{[]string{"element(a)", "element(b)", "element(a)"}, "element()", "element()+"},
		{[]string{"element(a)", "empty-sequence()", "element(a)"}, "element(a)?", "element(a)+"},
		{[]string{"empty-sequence()", "element(a)?", "empty-sequence()"}, "element(a)?", "element(a)?"},
		{[]string{"element(a)", "attribute(a)", "element(a)"}, "node()", "node()+"},
		{[]string{"xs:integer", "text()", "xs:string"}, "item()", "item()+"},
		{[]string{"xs:integer?", "xs:boolean*", "xs:string+"}, "xs:anyAtomicType*", "xs:anyAtomicType+"},
		{[]string{"empty-sequence()", "empty-sequence()", "empty-sequence()"}, "empty-sequence()", "empty-sequence()"},
	} {
		var ts []api.SeqType
		for _, s := range c.ts {
			ts = append(ts, read(t, s))
		}
		if e, j := parse.Type(either(t, ts...)), parse.Type(join(t, ts...)); e != c.either || j != c.join {
			t.Errorf("of %v: Either %s, Join %s", c.ts, e, j)
		}
	}
}

// Whatever the row, the answers are right, and neither hangs on how the types stand in it.
func TestP143RightInAnyOrder(t *testing.T) {
	r := rand.New(rand.NewSource(1430))
	ts := row(all())
	for i := range 4000 {
		var some []api.SeqType
		for range i % 9 {
			some = append(some, ts[r.Intn(len(ts))])
		}
		e, j := either(t, some...), join(t, some...)
		if !right(t, e, j) {
			t.Errorf("of %v: Either %v, Join %v", some, e, j)
		}
		turned := slices.Clone(some)
		r.Shuffle(len(turned), func(i, j int) { turned[i], turned[j] = turned[j], turned[i] })
		if either(t, turned...) != e || join(t, turned...) != j {
			t.Errorf("of %v and %v: other answers", some, turned)
		}
	}
}
