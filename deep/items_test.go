package deep

import (
	"math"
	"testing"

	"espalier/api"
	"espalier/atom"
	"espalier/cmp"
	"espalier/dec"
	"espalier/node"
)

// store has these trees.
func store(t *testing.T, trees ...api.Tree) *node.Store {
	t.Helper()
	s, e := node.New(api.MaxNodes)
	if e != api.OK {
		t.Fatal(e)
	}
	for _, x := range trees {
		if _, e := s.Build(x); e != api.OK {
			t.Fatalf("Build of %+v: %v", x, e)
		}
	}
	return s
}

// several are trees of every Kind, some of them the same.
func several() []api.Tree {
	return []api.Tree{
		doc(comment("k"), with(elem("a", text("t"), elem("b", text("u")), comment("c"), elem("b", text("u"))), "x", "1", "y", "2")),
		doc(with(elem("a", comment("c"), text("t"), elem("b", text("u")), elem("b", comment("u"), text("u"))), "y", "2", "x", "1")),
		elem("b", text("u")), elem("b", text("t")), elem("b"), elem("a"),
		attr("x", "1"), attr("y", "1"), attr("x", ""),
		text("t"), text("u"), comment("t"), comment("c"), comment(""), doc(),
	}
}

func nodes(ns ...int) []api.Item {
	var items []api.Item
	for _, n := range ns {
		items = append(items, api.Item{Node: n})
	}
	return items
}

func atomic(as ...api.Atom) []api.Item {
	var items []api.Item
	for _, a := range as {
		items = append(items, api.Item{Atom: a})
	}
	return items
}

// rights are right values of every kind, some of them equal to others.
func rights() []api.Atom {
	return []api.Atom{
		atom.Of(0), atom.Of(1), atom.Of(2), atom.Of(-2),
		atom.Number(dec.Num{}), atom.Number(dec.Num{N: 1}), atom.Number(dec.Num{N: 15, Scale: 1}), atom.Number(dec.Num{N: 2}),
		atom.Text(""), atom.Text("1"), atom.Text("t"), atom.Text("true"),
		atom.Raw(""), atom.Raw("1"), atom.Raw("t"), atom.Raw("u"),
		atom.Truth(false), atom.Truth(true),
	}
}

// wrongs are values that aren't right.
func wrongs() []api.Atom {
	return []api.Atom{
		{}, {S: "s"}, {Kind: -1}, {Kind: api.Atoms, N: 1}, {Kind: 77, B: true}, {Kind: math.MaxInt}, {Kind: math.MinInt},
		{Kind: api.Int, N: math.MaxInt}, {Kind: api.Int, S: "s"}, {Kind: api.Dec, N: 1, Scale: -1}, {Kind: api.Dec, N: 10, Scale: 1}, {Kind: api.Dec, N: math.MinInt, Scale: 77},
		{Kind: api.Str, S: "\xff"}, {Kind: api.Untyped, S: "\x00"}, {Kind: api.Bool, N: 1},
	}
}

func TestP72Nodes(t *testing.T) {
	s := store(t, several()...)
	for n := 1; n <= s.Len()+3; n++ {
		for m := 1; m <= s.Len()+3; m++ {
			if want := written(s.Tree(n)) == written(s.Tree(m)); Items(s, nodes(n), nodes(m)) != want {
				t.Fatalf("the nodes %d and %d, %+v and %+v: not %v", n, m, s.Tree(n), s.Tree(m), want)
			}
		}
	}
}

func TestP72ByHand(t *testing.T) {
	s := store(t, elem("a", text("t")), with(elem("b", elem("a", comment("c"), text("t"))), "x", "1"), attr("x", "1"), text("t"))
	// 1 a, 2 its Text; 3 b, 4 @x, 5 a, 6 its Comment, 7 its Text; 8 x, 9 a Text.
	for i, c := range []struct {
		as, bs []api.Item
		want   bool
	}{
		{nil, nil, true},
		{nil, []api.Item{}, true},
		{nodes(1), nodes(5), true},
		{nodes(2), nodes(7), true},
		{nodes(7), nodes(9), true},
		{nodes(4), nodes(8), true},
		{nodes(6), nodes(6), true},
		{nodes(1), nodes(2), false},
		{nodes(1), nodes(3), false},
		{nodes(6), nodes(7), false},
		{nodes(1, 2, 4), nodes(5, 9, 8), true},
		{nodes(1, 2, 4), nodes(5, 8, 9), false},
		{nodes(1, 2), nodes(5), false},
		{nodes(1), nodes(5, 7), false},
		{nodes(1), nil, false},
		{nil, atomic(atom.Of(1)), false},
		{atomic(atom.Of(1), atom.Raw("a")), atomic(atom.Number(dec.Num{N: 1}), atom.Text("a")), true},
		{atomic(atom.Of(1), atom.Of(1)), atomic(atom.Of(1)), false},
		{atomic(atom.Of(1), atom.Of(2)), atomic(atom.Of(2), atom.Of(1)), false},
		{atomic(atom.Of(1)), atomic(atom.Raw("1")), false},
		{atomic(atom.Truth(true)), atomic(atom.Of(1)), false},
		{append(nodes(1), atomic(atom.Of(1))...), append(nodes(5), atomic(atom.Of(1))...), true},
		{append(nodes(1), atomic(atom.Of(1))...), append(atomic(atom.Of(1)), nodes(5)...), false},
	} {
		if Items(s, c.as, c.bs) != c.want || Items(s, c.bs, c.as) != c.want {
			t.Errorf("%d: %v and %v: not %v", i, c.as, c.bs, c.want)
		}
	}
}

func TestP72Atoms(t *testing.T) {
	s := store(t, several()...)
	for _, a := range rights() {
		for _, b := range rights() {
			want := cmp.Equal(a, b)
			if Items(s, atomic(a), atomic(b)) != want || Items(s, atomic(atom.Of(7), a), atomic(atom.Of(7), b)) != want {
				t.Errorf("%v and %v: not %v", a, b, want)
			}
		}
	}
}

// Whatever a node's own value is, it is no atomic value's same; and with a Node above 0 an item is a node, whatever its Atom.
func TestP72NodeAndAtom(t *testing.T) {
	s := store(t, several()...)
	for n := 1; n <= s.Len()+2; n++ {
		for _, a := range append(rights(), s.Typed(n)) {
			both := api.Item{Node: n, Atom: a}
			one, other := []api.Item{both}, atomic(a)
			if Items(s, one, other) || Items(s, other, one) || Items(s, nodes(n), other) || Items(s, other, nodes(n)) {
				t.Fatalf("the node %d and %v: the same", n, a)
			}
			if !Items(s, one, nodes(n)) || !Items(s, nodes(n), []api.Item{{Node: n, Atom: atom.Of(99)}}) {
				t.Fatalf("the node %d with %v: not the same", n, a)
			}
		}
	}
}

// Numbers above the store's are nodes whose tree is the zero Tree.
func TestP72NodesThatAreNone(t *testing.T) {
	for _, s := range []*node.Store{store(t), store(t, several()...)} {
		above := []int{s.Len() + 1, s.Len() + 2, 2 * api.MaxNodes, math.MaxInt}
		for _, n := range above {
			for _, m := range above {
				if !Items(s, nodes(n), nodes(m)) {
					t.Errorf("%d and %d, which are no nodes: not the same", n, m)
				}
			}
			for m := 1; m <= s.Len(); m++ {
				if Items(s, nodes(n), nodes(m)) || Items(s, nodes(m), nodes(n)) {
					t.Errorf("%d, which is no node, and %d: the same", n, m)
				}
			}
			for _, a := range append(rights(), api.Atom{}) {
				if Items(s, nodes(n), atomic(a)) || Items(s, atomic(a), nodes(n)) {
					t.Errorf("%d, which is no node, and %v: the same", n, a)
				}
			}
		}
	}
}

// A Node below 0 isn't above 0, so the item is atomic.
func TestP72NodesBelowNought(t *testing.T) {
	s := store(t, several()...)
	for _, n := range []int{-1, -2, -s.Len(), math.MinInt, math.MinInt + 1} {
		for m := 1; m <= s.Len()+2; m++ {
			if Items(s, nodes(n), nodes(m)) || Items(s, nodes(m), nodes(n)) {
				t.Errorf("%d and the node %d: the same", n, m)
			}
		}
		for _, a := range rights() {
			for _, b := range rights() {
				if Items(s, []api.Item{{Node: n, Atom: a}}, atomic(b)) != cmp.Equal(a, b) || Items(s, []api.Item{{Node: -1, Atom: a}}, []api.Item{{Node: n, Atom: b}}) != cmp.Equal(a, b) {
					t.Errorf("%v with the Node %d, and %v", a, n, b)
				}
			}
		}
	}
}

// Of values that aren't right nothing is promised but that it ends.
func TestP72WrongAtoms(t *testing.T) {
	s := store(t, several()...)
	for _, a := range append(wrongs(), rights()...) {
		for _, b := range wrongs() {
			Items(s, atomic(a), atomic(b))
			Items(s, atomic(b), atomic(a))
			if Items(s, atomic(a), nodes(1)) || Items(s, atomic(a), atomic(a, b)) {
				t.Errorf("%v and a node, %v and two: the same", a, a)
			}
		}
	}
}

// Rows are the same just if they are so item by item.
func TestP72AllShortRows(t *testing.T) {
	s := store(t, several()...)
	some := append(nodes(1, 3, s.Len(), s.Len()+1), atomic(atom.Of(1), atom.Raw("t"), atom.Text("t"), atom.Truth(true))...)
	rows := [][]api.Item{nil}
	for i := 0; i < len(rows) && len(rows[i]) < 3; i++ {
		for _, x := range some {
			rows = append(rows, append(rows[i][:len(rows[i]):len(rows[i])], x))
		}
	}
	for _, as := range rows {
		for _, bs := range rows {
			want := len(as) == len(bs)
			for k := range min(len(as), len(bs)) {
				want = want && (as[k] == bs[k] || as[k].Node == 0 && bs[k].Node == 0 && cmp.Equal(as[k].Atom, bs[k].Atom))
			}
			if Items(s, as, bs) != want {
				t.Fatalf("%v and %v: not %v", as, bs, want)
			}
		}
	}
}
