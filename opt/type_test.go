package opt_test

import (
	"testing"

	"espalier/api"
	"espalier/infer"
	"espalier/types"
)

// holdTypesOf holds a text's type, and that of what comes of it; where they clash it is no type.
func holdTypesOf(t *testing.T, s string, was, is api.SeqType) {
	t.Helper()
	e := coreOf(t, s)
	got := simpler(t, api.Module{}, e)
	before, clash := infer.Expr(api.Module{}, nil, e)
	behind, clashes := infer.Expr(api.Module{}, nil, got)
	if before != was || clash != api.OK {
		t.Fatalf("the type of %s: %v, %v, not %v", s, before, clash, was)
	}
	if behind != is || clashes != api.OK || !types.Sub(behind, before) {
		t.Errorf("the type of what comes of %s: %v, %v, not %v", s, behind, clashes, is)
	}
}

func TestP174Types(t *testing.T) {
	integer, elem := of(api.IntItem, api.One), api.SeqType{Item: api.ElemItem, Name: "a", Occ: api.One}
	holdTypesOf(t, "1 + 2", integer, integer)
	holdTypesOf(t, "1 + 2.5", of(api.DecItem, api.One), of(api.DecItem, api.One))
	holdTypesOf(t, "4 div 2", of(api.DecItem, api.One), of(api.DecItem, api.One))
	holdTypesOf(t, "5.5 idiv 2", integer, integer)
	holdTypesOf(t, "1 eq 2", of(api.BoolItem, api.One), of(api.BoolItem, api.One))
	holdTypesOf(t, "if (1 eq 1) then 1 else 'a'", of(api.AtomItem, api.One), integer)
	holdTypesOf(t, "if (1 eq 1) then 1 else ()", of(api.IntItem, api.Opt), integer)
	holdTypesOf(t, "if (1 eq 2) then 2.5 else 1", of(api.DecItem, api.One), integer)
	holdTypesOf(t, "let $n := 2 return $n * $n", integer, integer)
	holdTypesOf(t, "let $n := if (1 eq 1) then 1 else 2.5 return ($n, $n)", of(api.DecItem, api.Plus), of(api.IntItem, api.Plus))
	holdTypesOf(t, "let $n := 'a' return element {$n} {}", of(api.ElemItem, api.One), elem)
	holdTypesOf(t, "element {if (1 eq 1) then 'a' else 'b'} {}", of(api.ElemItem, api.One), elem)
	holdTypesOf(t, "for $n in (if (1 eq 1) then 1 else (2, 3)) return ($n, 'a')", of(api.AtomItem, api.Plus), of(api.AtomItem, api.Plus))
	holdTypesOf(t, "(if (1 eq 1) then 1 else ())[. eq 1]", of(api.IntItem, api.Opt), of(api.IntItem, api.Opt))
	// By itself () has a type that is no part of what exactly-one has of both ways.
	holdTypesOf(t, "exactly-one(if (1 eq 1) then () else 2)", integer, integer)
	holdTypesOf(t, "one-or-more(if (1 eq 1) then () else 2)", of(api.IntItem, api.Plus), of(api.IntItem, api.Plus))
	holdTypesOf(t, "let $n := () return exactly-one(if (1 eq 2) then 2 else $n)", integer, integer)
}

// clashing tells whether an expression clashes.
func clashing(e api.Expr) bool {
	_, err := infer.Expr(api.Module{}, nil, e)
	return err != api.OK
}

// What clashes may cease to, and what doesn't may begin: nothing is asked of the types then.
func TestP174Clashes(t *testing.T) {
	for s, want := range map[string][2]bool{
		"1 + 'a'": {true, true}, "let $n := 'a' return $n + 1": {true, true}, "let $n := 1 return $n eq 'a'": {true, true}, "let $n := 1 return $n/a": {true, true}, "if (1 eq 1) then 2 else 1 + 'a'": {true, false}, "if ($v) then 2 else 1 + 'a'": {true, true},
		"(if (1 eq 1) then 'a' else ()) + 1": {false, true}, "(if (1 eq 1) then 'a' else 2) eq 1": {false, true}, "(if (1 eq 1) then 1 else ())/a": {false, true}, "(if (1 eq 1) then 1 else ()) + 1": {false, false},
	} {
		e := coreOf(t, s)
		got := simpler(t, api.Module{}, e)
		if is := [2]bool{clashing(e), clashing(got)}; is != want {
			t.Errorf("%s, and what comes of it, clash: %v, not %v", s, is, want)
		}
	}
}
