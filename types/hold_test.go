package types_test

import (
	"reflect"
	"slices"
	"testing"

	"espalier/api"
	"espalier/node"
	"espalier/types"
)

// stranger stands in the spare room of lists, where no call has business.
const stranger = "stranger"

// roomy is a copy of a list, with a stranger in its spare room.
func roomy[T any](all []T, last T) []T {
	return append(slices.Clone(all), last)[:len(all)]
}

func roomyTypes(ts []api.SeqType) []api.SeqType {
	return roomy(ts, api.SeqType{Item: 77, Name: stranger, Occ: 77})
}

func roomyItems(items []api.Item) []api.Item {
	return roomy(items, api.Item{Node: -77, Atom: api.Atom{S: stranger}})
}

// kept is what a call answers twice of what it must leave as it is, the spare room too.
func kept[T, R comparable](t *testing.T, name string, all []T, call func(...T) R) R {
	t.Helper()
	was := slices.Clone(all[:cap(all)])
	got := call(all...)
	if again := call(all...); again != got {
		t.Errorf("%s: two answers, %v and %v, of %v", name, got, again, all)
	}
	if !slices.Equal(all[:cap(all)], was) {
		t.Errorf("%s changed what it was handed: %v", name, was)
	}
	return got
}

func right(t *testing.T, ts ...api.SeqType) bool {
	t.Helper()
	return kept(t, "Right", roomyTypes(ts), types.Right)
}

func either(t *testing.T, ts ...api.SeqType) api.SeqType {
	t.Helper()
	return kept(t, "Either", roomyTypes(ts), types.Either)
}

func join(t *testing.T, ts ...api.SeqType) api.SeqType {
	t.Helper()
	return kept(t, "Join", roomyTypes(ts), types.Join)
}

func match(t *testing.T, s *node.Store, ty api.SeqType, items ...api.Item) bool {
	t.Helper()
	return kept(t, "Match", roomyItems(items), func(items ...api.Item) bool { return types.Match(s, ty, items...) })
}

// trees are those that the store of the tests is built of.
func trees() []api.Tree {
	text := api.Tree{Kind: api.Text, Value: "t"}
	comment := api.Tree{Kind: api.Comment, Value: "a"}
	return []api.Tree{
		{Kind: api.Doc, Kids: []api.Tree{{Kind: api.Elem, Name: "a", Attrs: []api.Pair{{Name: "a", Value: "b"}, {Name: "b", Value: "a"}}, Kids: []api.Tree{text, {Kind: api.Elem, Name: "b"}, comment}}}},
		{Kind: api.Elem, Name: "c", Attrs: []api.Pair{{Name: "c", Value: "1"}}},
		{Kind: api.Attr, Name: "a", Value: "1"},
		text, comment,
		{Kind: api.Doc},
	}
}

// numbers of nodes of the store, by what stands there.
const (
	docNode  = 1
	elemA    = 2
	attrA    = 3
	attrB    = 4
	textNode = 5
	elemB    = 6
	comNode  = 7
	elemC    = 8
	attrC    = 9
	loneAttr = 10 // an Attr a that is no element's
	loneText = 11
	loneCom  = 12
	emptyDoc = 13
	size     = 13
)

// stored is the store of the tests.
func stored(t *testing.T) *node.Store {
	t.Helper()
	s, e := node.New(100)
	if e != api.OK {
		t.Fatalf("New: %v", e)
	}
	for i, tree := range trees() {
		if _, e := s.Build(tree); e != api.OK {
			t.Fatalf("Build of tree %d: %v", i, e)
		}
	}
	if s.Len() != size {
		t.Fatalf("%d nodes", s.Len())
	}
	return s
}

// holdStore holds the store to what it was built of.
func holdStore(t *testing.T, s *node.Store) {
	t.Helper()
	if s.Len() != size || s.Room() != 100-size {
		t.Errorf("the store has %d nodes, and room for %d", s.Len(), s.Room())
	}
	n := 1
	for i, tree := range trees() {
		if got := s.Tree(n); !reflect.DeepEqual(got, tree) {
			t.Errorf("tree %d of the store is now %+v", i, got)
		}
		n = s.End(n) + 1
	}
}

func of(item api.ItemKind, occ api.Occ) api.SeqType { return api.SeqType{Item: item, Occ: occ} }

func named(item api.ItemKind, name string, occ api.Occ) api.SeqType {
	return api.SeqType{Item: item, Name: name, Occ: occ}
}

func nodeItem(n int) api.Item { return api.Item{Node: n} }

func atomItem(k api.AtomKind) api.Item {
	a := api.Atom{Kind: k}
	switch k {
	case api.Int, api.Dec:
		a.N = 7
	case api.Str, api.Untyped:
		a.S = "7"
	case api.Bool:
		a.B = true
	}
	return api.Item{Atom: a}
}
