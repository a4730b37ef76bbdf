package infer_test

import (
	"slices"
	"strings"
	"testing"

	"espalier/api"
)

// wrong are expressions in which there is a clash, of each of the three kinds.
func wrong() []api.Expr {
	step := api.Expr{Op: api.Step, Axis: api.Child}
	return []api.Expr{expr(api.Neg, str("a")), expr(api.VEq, number(1), str("a")), expr(api.Path, number(1), step)}
}

// coreOps are what a core is made of, and how many Kids each may have.
var coreOps = map[api.Op][]int{
	api.Seq: {1, 2, 5}, api.Range: {2}, api.Neg: {1}, api.If: {3}, api.For: {2}, api.Let: {2}, api.Order: {4}, api.Some: {2}, api.Every: {2}, api.Path: {2}, api.Filter: {2},
	api.Union: {2}, api.Inter: {2}, api.Except: {2}, api.Instance: {1}, api.Cast: {1}, api.Castable: {1}, api.Treat: {1}, api.Convert: {1}, api.MakeElem: {1, 2, 5}, api.MakeAttr: {1, 2, 5}, api.MakeText: {1}, api.MakeCom: {1}, api.MakeDoc: {1},
	api.Add: {2}, api.Sub: {2}, api.Mul: {2}, api.Div: {2}, api.IDiv: {2}, api.Mod: {2}, api.VEq: {2}, api.VNe: {2}, api.VLt: {2}, api.VLe: {2}, api.VGt: {2}, api.VGe: {2},
	api.GEq: {2}, api.GNe: {2}, api.GLt: {2}, api.GLe: {2}, api.GGt: {2}, api.GGe: {2}, api.Is: {2}, api.Before: {2}, api.After: {2}, api.And: {2}, api.Or: {2},
}

// places are cores with a place for an expression in each Kid of each kind of expression.
func places() []func(api.Expr) api.Expr {
	var all []func(api.Expr) api.Expr
	add := func(op api.Op, count, at int, name string, around func(api.Expr) api.Expr) {
		all = append(all, func(e api.Expr) api.Expr {
			// All that is beside it may be empty, so that nothing else clashes.
			kids := slices.Repeat([]api.Expr{expr(api.Seq)}, count)
			kids[at] = around(e)
			return named(op, name, kids...)
		})
	}
	itself := func(e api.Expr) api.Expr { return e }
	inCase := func(e api.Expr) api.Expr { return named(api.Case, "v", e) }
	for op, counts := range coreOps {
		for _, count := range counts {
			for at := range count {
				add(op, count, at, "x", itself)
			}
		}
	}
	for _, count := range []int{1, 2, 5} {
		for at := range count {
			add(api.Call, count, at, "local:f", itself)
			all = append(all, func(e api.Expr) api.Expr {
				s := expr(api.Switch, slices.Repeat([]api.Expr{inCase(expr(api.Seq))}, count+1)...)
				s.Kids[0], s.Kids[at+1] = expr(api.Seq), inCase(e)
				return s
			})
		}
	}
	all = append(all, func(e api.Expr) api.Expr { return expr(api.Switch, e, inCase(number(1)), inCase(number(2))) })
	for _, f := range append(fixedNames(), "data", "distinct-values", "reverse", "exactly-one", "zero-or-one", "one-or-more") {
		add(api.Call, 1, 0, f, itself)
	}
	return all
}

// fixedNames are the functions of one argument whose type is the same, whatever that is.
func fixedNames() []string {
	var names []string
	for _, f := range fixed {
		if slices.Contains(f.args, 1) {
			names = append(names, f.name...)
		}
	}
	return names
}

// A clash is told wherever it stands, one place within another.
func TestP151ClashInEachPlace(t *testing.T) {
	t.Parallel()
	funcs := []api.Func{{Name: "local:f", Params: make([]api.Param, 1)}, {Name: "local:f", Params: make([]api.Param, 2)}, {Name: "local:f", Params: make([]api.Param, 5)}}
	for _, place := range places() {
		if _, ok := found(t, api.Module{Funcs: funcs}, nil, place(expr(api.Seq))); !ok {
			t.Errorf("a clash without one in %s", show(place(expr(api.Seq))))
		}
		for _, e := range wrong() {
			if _, ok := found(t, api.Module{Funcs: funcs}, nil, place(e)); ok {
				t.Errorf("no clash in %s", show(place(e)))
			}
		}
		for _, outer := range places() {
			if _, ok := found(t, api.Module{Funcs: funcs}, nil, outer(place(wrong()[0]))); ok {
				t.Errorf("no clash in %s", show(outer(place(wrong()[0]))))
			}
		}
	}
}

// As queries are written: a place for an expression, in what is reached and in what never is.
func TestP151ClashInQueries(t *testing.T) {
	for _, text := range []string{
		"#", "(#)", "(1, #)", "(#, 1)", "# to 1", "1 to #", "() + #", "# = 1", "1 = #", "# and 1", "0 or #", "if (#) then 1 else 2", "if (false()) then # else 2", "if (true()) then 1 else #",
		"for $x in # return 1", "for $x in () return #", "for $x in 1 where # return 1", "for $x in 1 where # order by 1 return 1", "for $x in 1 order by # return 1", "for $x in 1 order by 1 return #", "let $x := # return 1", "let $x := 1 return #", "let $x := 1 where # return 2",
		"some $x in # satisfies 1", "some $x in () satisfies #", "every $x in () satisfies #", "a[#]", "()[#]", "#[1]", "a/#", "()/(#)", "(#)/a", "a/b[c[#]]/d", "# | a", "a except #", "# instance of node()", "# cast as xs:string", "# castable as xs:string?", "# treat as node()", "xs:string(#)",
		"typeswitch (#) case node() return 1 default return 2", "typeswitch (1) case node() return # default return 2", "typeswitch (1) case xs:integer return 1 default return #", "typeswitch (1) case xs:string return 1 case xs:decimal return # case xs:integer return 1 default return 1",
		"count(#)", "concat(1, 2, #)", "<a b='{#}'/>", "<a>{#}</a>", "<a><b>{#}</b></a>", "element a {#}", "element {#} {}", "attribute a {#}", "attribute {#} {1}", "text {#}", "comment {#}", "document {#}",
		"declare variable $g := #; 1", "declare variable $g as node() := #; 1", "declare function local:f() {#}; 1", "declare function local:f($a) as node() {a[#]}; 1", "declare function local:f($a as node()) {1}; local:f(#)",
	} {
		for _, e := range []string{`-"a"`, `(1 eq "a")`, "(1/a)", `(let $y := "a" return $y * 2)`} {
			if strings.HasPrefix(text, "#") || strings.Contains(text, "/#") {
				e = "(" + e + ")"
			}
			hold(t, strings.ReplaceAll(text, "#", e), clash)
		}
		if _, ok := foundModule(t, coreOf(t, strings.ReplaceAll(text, "#", "()"))); !ok {
			t.Errorf("a clash without one in %q", text)
		}
	}
}
