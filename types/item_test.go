package types_test

import (
	"math"
	"slices"
	"testing"

	"espalier/api"
	"espalier/node"
	"espalier/types"
)

// is is what Is answers, twice.
func is(t *testing.T, s *node.Store, x api.Item, ty api.SeqType) bool {
	t.Helper()
	got := types.Is(s, x, ty)
	if types.Is(s, x, ty) != got {
		t.Errorf("Is: two answers of %v, %v", x, ty)
	}
	return got
}

// kindOf is what Kind answers, twice.
func kindOf(t *testing.T, s *node.Store, x api.Item) api.SeqType {
	t.Helper()
	got := types.Kind(s, x)
	if again := types.Kind(s, x); again != got {
		t.Errorf("Kind: two answers of %v: %v, %v", x, got, again)
	}
	return got
}

func TestP141IsOfEachKind(t *testing.T) {
	s := stored(t)
	for _, x := range things() {
		for _, ty := range all() {
			if got, want := is(t, s, x.item, ty.SeqType), x.is&ty.items != 0; got != want {
				t.Errorf("Is %v of %v: %v", x.item, ty.SeqType, got)
			}
		}
	}
	holdStore(t, s)
}

// What the chapter says, by hand.
func TestP141IsByHand(t *testing.T) {
	s := stored(t)
	for _, c := range []struct {
		x    api.Item
		t    api.SeqType
		want bool
	}{
		{atomItem(api.Int), of(api.DecItem, api.One), true},
		{atomItem(api.Dec), of(api.IntItem, api.One), false},
		{api.Item{Atom: api.Atom{Kind: api.Dec, N: 70}}, of(api.IntItem, api.Star), false}, // a whole Dec is no Int
		{atomItem(api.Untyped), of(api.StrItem, api.One), false},
		{atomItem(api.Str), of(api.UntItem, api.One), false},
		{atomItem(api.Bool), of(api.AtomItem, api.Opt), true},
		{atomItem(api.Int), of(api.NodeItem, api.One), false},
		{atomItem(api.Int), of(api.NoItem, api.Star), false},
		{nodeItem(elemA), named(api.ElemItem, "a", api.One), true},
		{nodeItem(elemA), named(api.ElemItem, "A", api.One), false},
		{nodeItem(elemA), named(api.ElemItem, "aa", api.One), false},
		{nodeItem(elemA), named(api.AttrItem, "a", api.One), false},
		{nodeItem(attrA), named(api.ElemItem, "a", api.One), false},
		{nodeItem(attrA), named(api.AttrItem, "a", api.Plus), true},
		{nodeItem(attrA), named(api.AttrItem, "b", api.Plus), false}, // its Value is b, its Name isn't
		{nodeItem(attrA), of(api.AttrItem, api.Plus), true},
		{nodeItem(comNode), named(api.ElemItem, "a", api.One), false},
		{nodeItem(docNode), of(api.ElemItem, api.One), false},
		{nodeItem(docNode), of(api.NodeItem, api.One), true},
		{nodeItem(docNode), of(api.AtomItem, api.One), false},
		{nodeItem(docNode), of(api.NoItem, api.One), false},
		{nodeItem(size), of(api.NodeItem, api.One), true},
		{nodeItem(size + 1), of(api.NodeItem, api.One), false},
		{nodeItem(size + 1), of(api.AnyItem, api.One), true},
	} {
		if got := is(t, s, c.x, c.t); got != c.want {
			t.Errorf("Is %v of %v: %v", c.x, c.t, got)
		}
	}
}

// Numbers that are no node of the store, of an empty one too.
func TestP141IsOfNoNode(t *testing.T) {
	empty, _ := node.New(1)
	for _, c := range []struct {
		s  *node.Store
		ns []int
	}{
		{stored(t), []int{size + 1, size + 2, 101, -1, -2, -size, math.MinInt, math.MaxInt}},
		{empty, []int{1, 2, -1, math.MinInt, math.MaxInt}},
	} {
		for _, n := range c.ns {
			for _, x := range []api.Item{nodeItem(n), {Node: n, Atom: api.Atom{Kind: api.Int, N: 1}}} {
				for _, ty := range all() {
					if got, want := is(t, c.s, x, ty.SeqType), ty.Item == api.AnyItem; got != want {
						t.Errorf("Is %v, of no node, of %v: %v", x, ty.SeqType, got)
					}
				}
				if got := kindOf(t, c.s, x); got != of(api.AnyItem, api.One) {
					t.Errorf("Kind of %v, of no node: %v", x, got)
				}
			}
		}
	}
}

func TestP141Kind(t *testing.T) {
	s := stored(t)
	for _, c := range []struct {
		x    api.Item
		want api.SeqType
	}{
		{atomItem(api.Int), of(api.IntItem, api.One)},
		{atomItem(api.Dec), of(api.DecItem, api.One)},
		{api.Item{Atom: api.Atom{Kind: api.Dec}}, of(api.DecItem, api.One)},
		{atomItem(api.Str), of(api.StrItem, api.One)},
		{atomItem(api.Bool), of(api.BoolItem, api.One)},
		{atomItem(api.Untyped), of(api.UntItem, api.One)},
		{nodeItem(docNode), of(api.DocItem, api.One)},
		{nodeItem(elemA), named(api.ElemItem, "a", api.One)},
		{nodeItem(attrA), named(api.AttrItem, "a", api.One)},
		{nodeItem(attrB), named(api.AttrItem, "b", api.One)},
		{nodeItem(textNode), of(api.TextItem, api.One)},
		{nodeItem(elemB), named(api.ElemItem, "b", api.One)},
		{nodeItem(comNode), of(api.ComItem, api.One)},
		{nodeItem(elemC), named(api.ElemItem, "c", api.One)},
		{nodeItem(attrC), named(api.AttrItem, "c", api.One)},
		{nodeItem(loneAttr), named(api.AttrItem, "a", api.One)},
		{nodeItem(emptyDoc), of(api.DocItem, api.One)},
		{nodeItem(size + 1), of(api.AnyItem, api.One)},
		{nodeItem(-1), of(api.AnyItem, api.One)},
	} {
		if got := kindOf(t, s, c.x); got != c.want {
			t.Errorf("Kind of %v: %v, not %v", c.x, got, c.want)
		}
	}
	holdStore(t, s)
}

// The kind of an item is right, the item is of it, and it lies in each kind that the item is of.
func TestP141KindIsTheLeast(t *testing.T) {
	s := stored(t)
	for _, x := range things() {
		k := kindOf(t, s, x.item)
		if !right(t, k) || !is(t, s, x.item, k) || !match(t, s, k, x.item) {
			t.Errorf("Kind of %v: %v", x.item, k)
		}
		for _, ty := range all() {
			if ty.Item != api.NoItem && is(t, s, x.item, ty.SeqType) != types.Sub(k, of2(ty.SeqType, api.One)) {
				t.Errorf("Kind of %v: %v, and %v", x.item, k, ty.SeqType)
			}
		}
	}
}

// of2 is the type with another Occ.
func of2(t api.SeqType, o api.Occ) api.SeqType {
	t.Occ = o
	return t
}

// An item tells of the store as it is: a number becomes a node's.
func TestP141KindOfWhatIsBuiltLater(t *testing.T) {
	s, _ := node.New(3)
	a := named(api.ElemItem, "a", api.One)
	for n := 1; n <= 3; n++ {
		if kindOf(t, s, nodeItem(n)) != of(api.AnyItem, api.One) || is(t, s, nodeItem(n), a) {
			t.Errorf("node %d is there ahead of its time", n)
		}
		s.Build(api.Tree{Kind: api.Elem, Name: "a"})
		if kindOf(t, s, nodeItem(n)) != a || !match(t, s, a, nodeItem(n)) {
			t.Errorf("node %d isn't there", n)
		}
	}
}

// Rows of up to three of some items, and longer ones of the same, against each type.
func TestP141Match(t *testing.T) {
	s := stored(t)
	for _, r := range rows(t) {
		for _, ty := range all() {
			want := ty.counts&has(len(r)) != 0
			for _, x := range r {
				want = want && x.is&ty.items != 0
			}
			if got := match(t, s, ty.SeqType, itemsOf(r)...); got != want {
				t.Errorf("Match of %v and %v: %v", ty.SeqType, r, got)
			}
		}
	}
	holdStore(t, s)
}

// rows are all rows of no, one and two things, and of more of some.
func rows(t *testing.T) [][]rowOfItem {
	t.Helper()
	list := [][]rowOfItem{nil}
	for _, x := range things() {
		for _, n := range []int{1, 3, 4, 7, 9, 300} {
			list = append(list, slices.Repeat([]rowOfItem{x}, n))
		}
		for _, y := range things() {
			list = append(list, []rowOfItem{x, y})
			for _, other := range []int{0, 1, 2} { // the first, one between, the last is another one
				r := []rowOfItem{x, x, x}
				r[other] = y
				list = append(list, r)
			}
		}
	}
	return list
}

func itemsOf(r []rowOfItem) []api.Item {
	var items []api.Item
	for _, x := range r {
		items = append(items, x.item)
	}
	return items
}

func TestP141MatchByHand(t *testing.T) {
	s := stored(t)
	i, d, a, b := atomItem(api.Int), atomItem(api.Dec), nodeItem(elemA), nodeItem(elemB)
	for _, c := range []struct {
		t     api.SeqType
		items []api.Item
		want  bool
	}{
		{of(api.NoItem, api.Star), nil, true},
		{of(api.NoItem, api.One), nil, true},
		{of(api.NoItem, api.Plus), nil, true},
		{of(api.NoItem, api.Star), []api.Item{i}, false},
		{of(api.NoItem, api.One), []api.Item{i}, false},
		{of(api.IntItem, api.One), nil, false},
		{of(api.IntItem, api.Opt), nil, true},
		{of(api.IntItem, api.Plus), nil, false},
		{of(api.IntItem, api.Star), nil, true},
		{of(api.IntItem, api.One), []api.Item{i}, true},
		{of(api.IntItem, api.Opt), []api.Item{i, i}, false},
		{of(api.IntItem, api.Plus), []api.Item{i, i, i}, true},
		{of(api.IntItem, api.Plus), []api.Item{i, d, i}, false},
		{of(api.DecItem, api.Plus), []api.Item{i, d, i}, true},
		{of(api.AnyItem, api.One), []api.Item{i, d}, false},
		{of(api.AnyItem, api.Star), []api.Item{i, a, nodeItem(-1)}, true},
		{of(api.NodeItem, api.Star), []api.Item{a, a, nodeItem(-1)}, false},
		{named(api.ElemItem, "a", api.Star), []api.Item{a, a}, true},
		{named(api.ElemItem, "a", api.Star), []api.Item{a, b}, false},
		{of(api.ElemItem, api.Star), []api.Item{a, b}, true},
	} {
		if got := match(t, s, c.t, c.items...); got != c.want {
			t.Errorf("Match of %v and %v: %v", c.t, c.items, got)
		}
	}
}
