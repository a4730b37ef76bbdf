package infer_test

import (
	"fmt"
	"strings"
	"testing"

	"espalier/api"
)

func TestP151Globals(t *testing.T) {
	holdRows(t, []row{
		{"declare variable $g as node()* := a; $g", "node()*"},
		{"declare variable $g := 1; $g", "item()*"},
		{"declare variable $g as xs:integer := a; $g + 1", "xs:integer"},
		{"declare variable $g as xs:integer := 1; declare variable $h as xs:decimal := $g + 1; ($g, $h)", "xs:decimal+"},
		{"declare variable $g as xs:string := 1; declare variable $h := $g + 1; 1", clash},
		{"declare variable $g as xs:string? := 1; declare variable $h := $g + 1; 1", "xs:integer"},
		{`declare variable $g as xs:integer := "a" + 1; 1`, clash},
		{`declare variable $g as xs:integer := 1; declare variable $h := -"a"; $g`, clash},
		{"declare variable $g as xs:string := 1; $g + 1", clash},
		{"declare variable $g as xs:string := 1; declare function local:f($g) {$g + 1}; local:f($g)", "item()*"},
		{"declare variable $g as xs:integer := 1; declare function local:f($g as xs:string) as xs:string {$g}; local:f($g)", "xs:string"},
		{"declare variable $g as xs:integer := 1; declare function local:f($g as xs:string) {$g + 1}; 1", clash},
		{`declare variable $g as xs:integer := 1; let $g := "a" return $g`, "xs:string"},
		{`declare variable $g as xs:integer := 1; (let $g := "a" return $g, $g)`, "xs:anyAtomicType+"},
	})
}

func TestP151Funcs(t *testing.T) {
	holdRows(t, []row{
		{"declare function local:f($a as xs:integer) as xs:string {$a + 1}; local:f(1)", "xs:string"},
		{"declare function local:f($a as xs:integer) {$a + 1}; local:f(1)", "item()*"},
		{"declare function local:f($a as xs:string) {$a + 1}; 1", clash},
		{"declare function local:f($a as xs:string?) {$a + 1}; 1", "xs:integer"},
		{"declare function local:f($a) {$a + 1}; 1", "xs:integer"},
		{"declare function local:f($a as xs:string, $b as xs:integer) {$b + 1}; 1", "xs:integer"},
		{"declare function local:f($a as xs:string) as xs:integer {$a}; local:f(1) + 1", "xs:integer"},
		{"declare function local:f($a as xs:integer) as xs:string {$a}; local:f(1) + 1", clash},
		{"declare function local:f() as xs:string {1}; declare function local:g() {local:f() + 1}; 1", clash},
		{"declare function local:g() {local:f() + 1}; declare function local:f() as xs:string {1}; 1", clash},
		{"declare function local:f() as xs:string {local:f()}; local:f()", "xs:string"},
		{"declare function local:f($a) as xs:integer {1}; declare function local:f($a, $b) as xs:string {2}; (local:f(1), local:f(1, 2) )", "xs:anyAtomicType+"},
		{"declare function local:f($a) as xs:integer {1}; declare function local:f($a, $b) as xs:string {2}; local:f(local:f(1), 1)", "xs:string"},
		{"declare function local:f($a) as xs:integer {1}; declare function local:f($a, $b) as xs:string {2}; local:f(1, 2) * local:f(1)", clash},
		{"declare function local:count($a) as xs:string {1}; local:count(1)", "xs:string"},
		{"declare function local:f($a as xs:integer) as xs:integer {1}; local:f(\"a\" + 1)", clash},
		{"declare function local:f($a as xs:integer) as xs:integer {1}; local:f(\"a\")", "xs:integer"},
		{"declare function local:f() as empty-sequence() {()}; local:f()", "empty-sequence()"},
		{"declare function local:f() as element(a)+ {a}; local:f()/b", "element(b)*"},
		{"declare function local:f() as element(a)+ {a}; local:f()[1]", "element(a)*"},
		{"declare function local:f($a as xs:string) {let $a := 1 return $a + 1}; 1", "xs:integer"},
	})
}

// A Global has its Type behind it alone: ahead of it, and in itself, it is a variable of which nothing is known.
func TestP151GlobalsInOrder(t *testing.T) {
	text := of(api.StrItem, api.One)
	ask := expr(api.Neg, variable("g"))
	g := api.Global{Name: "g", Type: text, Body: number(1)}
	for _, c := range []struct {
		m    api.Module
		want string
	}{
		{api.Module{Globals: []api.Global{{Name: "h", Body: ask}, g}, Body: number(1)}, "xs:integer"},
		{api.Module{Globals: []api.Global{g, {Name: "h", Body: ask}}, Body: number(1)}, clash},
		{api.Module{Globals: []api.Global{{Name: "g", Type: text, Body: ask}}, Body: number(1)}, "xs:integer"},
		{api.Module{Globals: []api.Global{g}, Funcs: []api.Func{{Name: "local:f", Body: ask}}, Body: number(1)}, "xs:integer"},
		{api.Module{Globals: []api.Global{g}, Funcs: []api.Func{{Name: "local:f", Params: []api.Param{{Name: "g", Type: of(api.IntItem, api.One)}}, Body: ask}}, Body: number(1)}, "xs:integer"},
		{api.Module{Funcs: []api.Func{{Name: "local:f", Params: []api.Param{{Name: "g", Type: text}}, Body: ask}}, Body: number(1)}, clash},
		{api.Module{Funcs: []api.Func{{Name: "local:f", Params: []api.Param{{Name: "g", Type: text}}, Body: number(1)}, {Name: "local:g", Body: ask}}, Body: ask}, "xs:decimal?"},
		{api.Module{Globals: []api.Global{g}, Body: ask}, clash},
		{api.Module{Globals: []api.Global{{Name: "g", Type: text, Body: named(api.Let, "g", number(1), variable("g"))}}, Body: ask}, clash},
	} {
		if got := typeText(foundModule(t, c.m)); got != c.want {
			t.Errorf("Module of %+v: %s, not %s", c.m, got, c.want)
		}
	}
}

// One clash is one too many, wherever it stands.
func TestP151OneClashOfMany(t *testing.T) {
	const count = 12
	for at := range 3*count + 1 {
		body := func(i int) string {
			if i == at {
				return "-true()"
			}
			return "1"
		}
		var w strings.Builder
		for i := range count {
			fmt.Fprintf(&w, "declare variable $g%d as xs:integer := %s; ", i, body(i))
			fmt.Fprintf(&w, "declare function local:f%d() as xs:integer {%s}; ", i, body(count+i))
		}
		kids := make([]string, count)
		for i := range kids {
			kids[i] = body(2*count + i)
		}
		want := clash
		if at == 3*count {
			want = "xs:integer+"
		}
		hold(t, w.String()+strings.Join(kids, ", "), want)
	}
}
