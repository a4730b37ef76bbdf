package opt_test

import (
	"testing"

	"espalier/api"
	"espalier/opt"
)

// Queries, and the queries whose cores come of them.
func TestP172Modules(t *testing.T) {
	for s, want := range map[string]string{
		"1 + 1": "2",
		"declare variable $a := 1 + 1; $a + (1 + 1)":                     "declare variable $a := 2; $a + 2",
		"declare variable $a := 1 + 1; declare variable $b := $a * 1; 3": "declare variable $a := 2; declare variable $b := $a * 1; 3",
		"declare variable $a as xs:integer := let $n := 2 return $n; 1":  "declare variable $a as xs:integer := 2; 1",
		"declare variable $a := 1 div 0; 1 + 1":                          "declare variable $a := 1 div 0; 2",
		"declare function local:f() {1 + 1}; 3":                          "declare function local:f() {2}; 3",
		"declare function local:f($n) {$n + (1 + 1)}; local:f(1 + 2)":    "declare function local:f($n) {$n + 2}; local:f(3)",
		"declare function local:f($n as xs:integer, $m as node()*) as xs:decimal? {let $n := $n let $k := 1 return $n + $k}; local:f(1 + 1, ())": "declare function local:f($n as xs:integer, $m as node()*) as xs:decimal? {let $n := $n return $n + 1}; local:f(2, ())",
		"declare function local:f($n) {let $n := 1 return $n}; declare function local:f() {local:f(1 + 1)}; let $n := 5 return local:f($n)":      "declare function local:f($n) {1}; declare function local:f() {local:f(2)}; local:f(5)",
		// What is bound in one expression is not in another one.
		"declare variable $n := let $m := 1 return $m; declare variable $m := $n; declare function local:f($m) {$m}; let $n := 1 return $n, $m, $n":            "declare variable $n := 1; declare variable $m := $n; declare function local:f($m) {$m}; 1, $m, $n",
		"declare variable $n := let $m := 1 return $m; declare variable $m := 2; declare function local:f($n) {let $m := $n return $m}; let $k := 1 return $n": "declare variable $n := 1; declare variable $m := 2; declare function local:f($n) {let $m := $n return $m}; $n",
		// What isn't used stays.
		"declare variable $a := error(); declare variable $b := 2; declare function local:f($x, $y as xs:string) {1 div 0}; declare function local:g() {local:g()}; 1": "declare variable $a := error(); declare variable $b := 2; declare function local:f($x, $y as xs:string) {1 div 0}; declare function local:g() {local:g()}; 1",
	} {
		m, wanted := moduleOf(t, s), moduleOf(t, want)
		if got := simplerModule(t, m); !sameModule(got, wanted) {
			t.Errorf("of %s comes a query of the Body %s, not %s", s, show(got.Body), want)
		}
	}
}

// A module's expressions become what Expr makes of each.
func TestP172ModuleByExpr(t *testing.T) {
	m := moduleOf(t, "declare variable $a := let $n := 1 return $n + $n; declare variable $b as xs:string := if ($a eq 2) then 'a' else string(1 + 1); declare function local:f($n) {let $k := 3 return $n * ($k + 1)}; local:f(1 + 1), $a, $b")
	got := opt.Module(m)
	for i, g := range m.Globals {
		if want := simpler(t, m, g.Body); !same(got.Globals[i].Body, want) {
			t.Errorf("the Global $%s: %s, not %s", g.Name, show(got.Globals[i].Body), show(want))
		}
	}
	for i, f := range m.Funcs {
		if want := simpler(t, m, f.Body); !same(got.Funcs[i].Body, want) {
			t.Errorf("the Func %s: %s, not %s", f.Name, show(got.Funcs[i].Body), show(want))
		}
	}
	if want := simpler(t, m, m.Body); !same(got.Body, want) {
		t.Errorf("the Body: %s, not %s", show(got.Body), show(want))
	}
}

// Empty lists with room are none of the answer's.
func TestP174EmptyLists(t *testing.T) {
	room := func(op api.Op, name string) api.Expr {
		return api.Expr{Op: op, Name: name, Kids: make([]api.Expr, 0, 4)}
	}
	for _, e := range []api.Expr{room(api.Seq, ""), room(api.Var, "x"), room(api.Dot, ""), room(api.Call, "true"), room(api.Let, "x"), room(api.For, "x"), room(api.Case, "x"), {Op: api.Lit, Val: whole(1), Kids: make([]api.Expr, 0, 4)}} {
		got := opt.Expr(api.Module{}, e)
		if cap(got.Kids) > 0 {
			t.Errorf("of %s comes an empty list with room", show(e))
		}
		whole := opt.Module(api.Module{Globals: make([]api.Global, 0, 4), Funcs: make([]api.Func, 0, 4), Body: e})
		if cap(whole.Globals) > 0 || cap(whole.Funcs) > 0 || cap(whole.Body.Kids) > 0 {
			t.Errorf("of a query of %s comes an empty list with room", show(e))
		}
		within := opt.Module(api.Module{Globals: []api.Global{{Body: e}}, Funcs: []api.Func{{Params: make([]api.Param, 0, 4), Body: e}}})
		if cap(within.Funcs[0].Params) > 0 || cap(within.Funcs[0].Body.Kids) > 0 || cap(within.Globals[0].Body.Kids) > 0 {
			t.Errorf("of a query with %s comes an empty list with room", show(e))
		}
	}
}
