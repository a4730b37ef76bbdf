package types_test

import (
	"math"
	"testing"

	"espalier/api"
	"espalier/types"
)

// Types that aren't right, beside themselves and beside right ones: of these nothing is promised but that each call ends.
func TestP142WrongTypesEnd(t *testing.T) {
	t.Parallel()
	s := stored(t)
	wrongs := wrongTypes()
	mixed := append(row(all()), wrongs...)
	items := []api.Item{}
	for _, x := range things() {
		items = append(items, x.item)
	}
	for _, w := range wrongs {
		either(t, w)
		join(t, w)
		for _, x := range items {
			is(t, s, x, w)
			match(t, s, w, x)
			match(t, s, w, x, x)
		}
		match(t, s, w)
		match(t, s, w, items...)
		for _, o := range mixed {
			sub(t, w, o)
			sub(t, o, w)
			times(t, w, o)
			times(t, o, w)
			either(t, w, o)
			either(t, o, w, o)
			join(t, o, w)
			join(t, w, o, w)
		}
	}
	either(t, mixed...)
	join(t, mixed...)
	holdStore(t, s)
}

// Values whose kind is none are no atomic values; a value that isn't right is of its kind all the same.
func TestP141WrongItems(t *testing.T) {
	s := stored(t)
	for _, k := range []api.AtomKind{0, -1, api.Atoms, api.Atoms + 1, math.MinInt, math.MaxInt} {
		x := api.Item{Atom: api.Atom{Kind: k, N: 1, S: "a", B: true}}
		for _, ty := range all() {
			if got, want := is(t, s, x, ty.SeqType), ty.Item == api.AnyItem; got != want {
				t.Errorf("Is a value of the kind %d of %v: %v", k, ty.SeqType, got)
			}
		}
		if got := kindOf(t, s, x); got != of(api.AnyItem, api.One) {
			t.Errorf("Kind of a value of the kind %d: %v", k, got)
		}
	}
	want := []api.ItemKind{api.Int: api.IntItem, api.Dec: api.DecItem, api.Str: api.StrItem, api.Bool: api.BoolItem, api.Untyped: api.UntItem}
	for k := api.Int; k < api.Atoms; k++ {
		x := api.Item{Atom: api.Atom{Kind: k, N: math.MinInt, Scale: -1, S: "\xff", B: true}}
		if got := types.Kind(s, x); got != of(want[k], api.One) || !is(t, s, x, got) || !is(t, s, x, of(api.AtomItem, api.One)) {
			t.Errorf("Kind of %v: %v", x, got)
		}
	}
}
