package types_test

import (
	"math"
	"slices"
	"strings"
	"testing"

	"espalier/api"
)

// names are such as are names, and such as are none.
func names() (good, bad []string) {
	good = []string{"a", "A", "_", "a1", "a-b", "a.b", "item", "text", "a_", "\u00e9", "\u0416x", strings.Repeat("n", api.MaxQuery)}
	bad = []string{" ", "1", "-a", ".a", "a b", " a", "a ", "a:b", "*", "a\x00", "\xff", "a\xff", "\u00b7", "$a", "a/b", "<", strings.Repeat("n", api.MaxQuery) + " "}
	return good, bad
}

func TestP141RightByKindAndOcc(t *testing.T) {
	for item := api.ItemKind(-3); item < api.ItemKinds+3; item++ {
		for occ := api.Occ(-3); occ < api.Occs+3; occ++ {
			want := item >= 0 && item <= 13 && occ >= 0 && occ <= 3
			if got := right(t, of(item, occ)); got != want {
				t.Errorf("Right of kind %d, Occ %d: %v", item, occ, got)
			}
		}
	}
	for _, far := range []int{math.MinInt, math.MaxInt, math.MinInt32, math.MaxInt32, 256, 1 << 32} {
		if right(t, of(api.ItemKind(far), api.One)) || right(t, of(api.IntItem, api.Occ(far))) {
			t.Errorf("Right of kind or Occ %d: true", far)
		}
	}
}

func TestP141RightByName(t *testing.T) {
	good, bad := names()
	for item := range api.ItemKind(api.ItemKinds) {
		takes := item == api.ElemItem || item == api.AttrItem
		for occ := range api.Occ(api.Occs) {
			for _, name := range good {
				if got := right(t, named(item, name, occ)); got != takes {
					t.Errorf("Right of kind %d with the name %.20q: %v", item, name, got)
				}
			}
			for _, name := range bad {
				if right(t, named(item, name, occ)) {
					t.Errorf("Right of kind %d with the name %.20q: true", item, name)
				}
			}
		}
	}
}

// wrongTypes are such as aren't right.
func wrongTypes() []api.SeqType {
	var ts []api.SeqType
	_, bad := names()
	for _, item := range []api.ItemKind{-1, api.ItemKinds, math.MinInt, math.MaxInt} {
		for occ := range api.Occ(api.Occs) {
			ts = append(ts, of(item, occ), named(item, "a", occ))
		}
	}
	for item := range api.ItemKind(api.ItemKinds) {
		for _, occ := range []api.Occ{-1, api.Occs, math.MinInt, math.MaxInt} {
			ts = append(ts, of(item, occ), named(item, "a", occ))
		}
		for _, name := range bad {
			ts = append(ts, named(item, name, api.One), named(item, name, api.Star))
		}
		if item != api.ElemItem && item != api.AttrItem {
			ts = append(ts, named(item, "a", api.One), named(item, "b", api.Star))
		}
	}
	return append(ts, named(-1, "\xff", -1), named(api.ItemKinds, " ", api.Occs))
}

func TestP141RightOfSeveral(t *testing.T) {
	if !right(t) {
		t.Error("Right of no type: false")
	}
	goods := row(all())
	if !right(t, goods...) {
		t.Error("Right of all right types: false")
	}
	for _, wrong := range wrongTypes() {
		for _, at := range []int{0, 1, len(goods) / 2, len(goods)} {
			if right(t, slices.Insert(slices.Clone(goods), at, wrong)...) {
				t.Errorf("Right with %.60q at %d: true", wrong.Name, at)
			}
		}
		if right(t, wrong) || right(t, wrong, wrong) {
			t.Errorf("Right of %d, %.20q, %d: true", wrong.Item, wrong.Name, wrong.Occ)
		}
	}
}
