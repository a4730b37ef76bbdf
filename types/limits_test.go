package types_test

import (
	"slices"
	"strings"
	"testing"

	"espalier/api"
	"espalier/node"
	"espalier/types"
)

// plenty is more than any list of the language holds.
const plenty = 1 << 20

func TestP143OfPlenty(t *testing.T) {
	t.Parallel()
	for _, x := range all() {
		ts := slices.Repeat([]api.SeqType{x.SeqType}, plenty/8)
		if got, want := types.Either(ts...), judgedEither(x); got != want {
			t.Errorf("Either of many %v: %v", x.SeqType, got)
		}
		if got, want := types.Join(ts...), judgedJoin(x, x, x); got != want {
			t.Errorf("Join of many %v: %v", x.SeqType, got)
		}
		if !types.Right(ts...) {
			t.Errorf("Right of many %v: false", x.SeqType)
		}
		ts[len(ts)-1].Occ = api.Occs
		if types.Right(ts...) {
			t.Errorf("Right of many %v, of which the last is wrong: true", x.SeqType)
		}
	}
}

func TestP141MatchOfPlenty(t *testing.T) {
	t.Parallel()
	s := stored(t)
	items := slices.Repeat([]api.Item{nodeItem(elemA)}, plenty)
	a := named(api.ElemItem, "a", api.Plus)
	if !types.Match(s, a, items...) || types.Match(s, of2(a, api.One), items...) || types.Match(s, of2(a, api.Opt), items...) {
		t.Error("Match of many Elems")
	}
	items[plenty-1] = nodeItem(elemB)
	if types.Match(s, a, items...) || !types.Match(s, of(api.ElemItem, api.Star), items...) {
		t.Error("Match of many Elems and another at the end")
	}
}

// Names as long as they come, that differ at the end alone.
func TestP141LongNames(t *testing.T) {
	long := strings.Repeat("n", plenty)
	s, _ := node.New(1)
	if _, e := s.Build(api.Tree{Kind: api.Elem, Name: long + "a"}); e != api.OK {
		t.Fatal(e)
	}
	a, b := named(api.ElemItem, long+"a", api.One), named(api.ElemItem, long+"b", api.One)
	if !right(t, a, b) || !is(t, s, nodeItem(1), a) || is(t, s, nodeItem(1), b) || kindOf(t, s, nodeItem(1)) != a {
		t.Error("an Elem of a long name")
	}
	if sub(t, a, b) || !sub(t, a, named(api.ElemItem, strings.Clone(a.Name), api.Opt)) || either(t, a, b) != of(api.ElemItem, api.One) {
		t.Error("types of long names")
	}
}
