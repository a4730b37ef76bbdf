package deep

import (
	"math"
	"slices"
	"strings"
	"testing"

	"espalier/api"
	"espalier/atom"
	"espalier/dec"
	"espalier/node"
)

// holdValues holds Atoms and Values against the values that items should have.
func holdValues(t *testing.T, s *node.Store, items []api.Item, want ...api.Atom) {
	t.Helper()
	if got := Atoms(s, items...); !slices.Equal(got, want) {
		t.Errorf("Atoms of %v: %v, not %v", items, got, want)
	}
	if got, e := Values(s, items...); e != api.OK || !slices.Equal(got, want) {
		t.Errorf("Values of %v: %v, %v, not %v", items, got, e, want)
	}
}

func TestP74ByHand(t *testing.T) {
	s := store(t, doc(comment("k"), with(elem("a", text("t"), comment("c"), elem("b", text("u"))), "x", "1")), attr("y", ""), elem("c"), comment(""), doc())
	// 1 the Doc, 2 a Comment, 3 a, 4 @x, 5 a Text, 6 a Comment, 7 b, 8 a Text; 9 y; 10 c; 11 a Comment; 12 a Doc.
	holdValues(t, s, nil)
	holdValues(t, s, []api.Item{})
	holdValues(t, s, nodes(1, 2, 3, 4, 5, 6, 7, 8), atom.Raw("tu"), atom.Text("k"), atom.Raw("tu"), atom.Raw("1"), atom.Raw("t"), atom.Text("c"), atom.Raw("u"), atom.Raw("u"))
	holdValues(t, s, nodes(9, 10, 11, 12), atom.Raw(""), atom.Raw(""), atom.Text(""), atom.Raw(""))
	holdValues(t, s, nodes(7, 1, 7), atom.Raw("u"), atom.Raw("tu"), atom.Raw("u"))
	holdValues(t, s, atomic(atom.Of(1), atom.Truth(true)), atom.Of(1), atom.Truth(true))
	holdValues(t, s, append(atomic(atom.Of(-7)), append(nodes(4), atomic(atom.Text("1"))...)...), atom.Of(-7), atom.Raw("1"), atom.Text("1"))
}

func TestP74Items(t *testing.T) {
	s := store(t, several()...)
	all := append(atomic(rights()...), atomic(wrongs()...)...)
	want := append(rights(), wrongs()...)
	for n := 1; n <= s.Len(); n++ {
		all, want = append(all, api.Item{Node: n, Atom: atom.Of(99)}), append(want, s.Typed(n))
	}
	for i := range all {
		holdValues(t, s, all[i:i+1], want[i])
		holdValues(t, s, all[i:], want[i:]...)
		holdValues(t, s, all[:i], want[:i]...)
	}
}

// Of a Node above the store's the value is layer 5's of no node; an item with a Node below 0 is no node, its value its Atom.
func TestP74WrongNodes(t *testing.T) {
	for _, s := range []*node.Store{store(t), store(t, several()...)} {
		for _, n := range []int{s.Len() + 1, s.Len() + 2, 2 * api.MaxNodes, math.MaxInt} {
			holdValues(t, s, []api.Item{{Node: n, Atom: atom.Text("s")}, {Node: n}}, api.Atom{}, api.Atom{})
		}
		for _, n := range []int{-1, -2, -s.Len(), math.MinInt} {
			holdValues(t, s, []api.Item{{Node: n, Atom: atom.Text("s")}, {Node: n}}, atom.Text("s"), api.Atom{})
		}
	}
}

// A store that has no part in it need not be there.
func TestP74NoStore(t *testing.T) {
	holdValues(t, nil, atomic(rights()...), rights()...)
	if !Items(nil, atomic(atom.Of(1)), atomic(atom.Of(1))) {
		t.Error("the same without a store")
	}
}

// holdTooLong holds that the items' texts are too long for Values, and not for Atoms.
func holdTooLong(t *testing.T, s *node.Store, items []api.Item) {
	t.Helper()
	if as, e := Values(s, items...); len(as) != 0 || e != api.ErrItems {
		t.Errorf("%d items too long: %d values, %v", len(items), len(as), e)
	}
	if as := Atoms(s, items...); len(as) != len(items) {
		t.Errorf("%d items: %d Atoms", len(items), len(as))
	}
}

// holdJustSo holds that they aren't.
func holdJustSo(t *testing.T, s *node.Store, items []api.Item) {
	t.Helper()
	if as, e := Values(s, items...); e != api.OK || !slices.Equal(as, Atoms(s, items...)) || len(as) != len(items) {
		t.Errorf("%d items just so: %d values, %v", len(items), len(as), e)
	}
}

func TestP74ValuesTooLong(t *testing.T) {
	long := strings.Repeat("a", api.MaxText)
	half := long[:api.MaxText/2]
	s := store(t, elem("a", text(half), elem("b", text(half))), text("a"), comment(half), attr("x", long), elem("c"), comment(long+"a"))
	// 1 a (just so), 2 a Text, 3 b, 4 a Text; 5 a Text of one; 6 a Comment; 7 x (just so); 8 c; 9 a Comment (too long).
	for _, value := range []func(string) api.Atom{atom.Text, atom.Raw} {
		just, one := atomic(value(long)), atomic(value("a"))
		holdJustSo(t, s, just)
		holdTooLong(t, s, atomic(value(long+"a")))
		holdTooLong(t, s, slices.Concat(just, one))
		holdTooLong(t, s, slices.Concat(one, just))
		holdTooLong(t, s, slices.Concat(just, atomic(value("")), one, one))
		holdJustSo(t, s, slices.Concat(atomic(value(""), atom.Of(77), atom.Truth(true), atom.Number(dec.Num{N: 5, Scale: 1})), just, nodes(8)))
		holdJustSo(t, s, slices.Concat(atomic(value(half)), nodes(3)))
		holdTooLong(t, s, slices.Concat(atomic(value(half)), nodes(3), one))
		holdTooLong(t, s, slices.Concat(atomic(value(half)), nodes(6, 5)))
		holdTooLong(t, s, slices.Concat(just, just, just))
	}
	holdJustSo(t, s, nodes(1))
	holdJustSo(t, s, nodes(7))
	holdJustSo(t, s, nodes(3, 6, 8))
	holdJustSo(t, s, slices.Repeat(nodes(5), api.MaxText))
	holdJustSo(t, s, slices.Repeat(atomic(atom.Of(123456789)), api.MaxText+1))
	for _, ns := range [][]int{{9}, {1, 5}, {5, 1}, {7, 5}, {3, 6, 5}, {4, 3, 2}, {1, 1, 8}} {
		holdTooLong(t, s, nodes(ns...))
	}
	holdTooLong(t, s, slices.Repeat(nodes(5), api.MaxText+1))
}

// Bytes are counted, not characters; and the S of any value, right or not.
func TestP74ValuesBytes(t *testing.T) {
	s := store(t, several()...)
	holdJustSo(t, s, atomic(atom.Text(strings.Repeat("é", api.MaxText/2))))
	holdTooLong(t, s, atomic(atom.Text(strings.Repeat("é", api.MaxText/2)+"a")))
	holdTooLong(t, s, atomic(atom.Raw(strings.Repeat("\U0001F600", api.MaxText/4)), atom.Raw("a")))
	holdTooLong(t, s, atomic(atom.Text(strings.Repeat("é", api.MaxText))))
	long := strings.Repeat("\xff", api.MaxText)
	for _, kind := range []api.AtomKind{0, api.Int, api.Dec, api.Str, api.Bool, api.Untyped, 77} {
		holdJustSo(t, s, atomic(api.Atom{Kind: kind, S: long}, atom.Of(1)))
		holdTooLong(t, s, atomic(api.Atom{Kind: kind, S: long}, atom.Text("a")))
	}
}

func TestP74Join(t *testing.T) {
	one, truth, a, b, none := atom.Of(1), atom.Truth(true), atom.Text("a"), atom.Raw("b"), atom.Text("")
	for i, c := range []struct{ got, want string }{
		{Join(" ", one, truth), "1 true"},
		{Join(" "), ""},
		{Join(""), ""},
		{Join(" ", a), "a"},
		{Join("", a), "a"},
		{Join(" ", none), ""},
		{Join("", a, b, one), "ab1"},
		{Join(", ", a, b, a), "a, b, a"},
		{Join("-", none, none), "-"},
		{Join("-", none, a, none), "-a-"},
		{Join(" ", none, none, none), "  "},
		{Join("é\n", a, b), "aé\nb"},
		{Join("a", a, a), "aaa"},
		{Join(" ", atom.Number(dec.Num{N: -5, Scale: 1}), atom.Number(dec.Num{N: 100}), atom.Truth(false), atom.Of(-7)), "-0.5 100 false -7"},
		{Join("\xff", a, atom.Raw("\x00")), "a\xff\x00"},
		{Join("-", api.Atom{}, api.Atom{Kind: 77, S: "s"}, one), "--1"},
		{Join("-", api.Atom{Kind: api.Int, N: 2, S: "s", B: true}, api.Atom{Kind: api.Str, N: 2, S: "s"}), "2-s"},
	} {
		if c.got != c.want {
			t.Errorf("%d: %q, not %q", i, c.got, c.want)
		}
	}
}

func TestP74JoinAll(t *testing.T) {
	all := append(rights(), wrongs()...)
	for _, sep := range []string{"", " ", ", "} {
		want := ""
		for i, a := range all {
			if i > 0 {
				want += sep
			}
			want += atom.String(a)
			if got := Join(sep, all[:i+1]...); got != want {
				t.Fatalf("Join of %v by %q: %q, not %q", all[:i+1], sep, got, want)
			}
		}
	}
}
