package infer_test

import (
	"fmt"
	"slices"
	"strings"
	"testing"

	"espalier/api"
	"espalier/infer"
)

// longs are queries as long as there is room for: what stands in front, what comes again and again, what stands at the end, and the type.
var longs = []struct{ front, unit, end, want string }{
	{"1", "+1", "", "xs:integer"},
	{"1", "+1", "+1.5", "xs:decimal"},
	{"1", " -a", "", "xs:decimal?"},
	{`"a"`, "+1", "", clash},
	{"1", "+1", "+true()", clash},
	{"", "-", "1", "xs:integer"},
	{"", "-", `"a"`, clash},
	{"1", ",1", "", "xs:integer+"},
	{"1", ",()", "", "xs:integer"},
	{"1", ",1", `,"a"`, "xs:anyAtomicType+"},
	{"1[1]", ",2[1]", "", "xs:integer*"},
	{"a", "/a", "", "element(a)*"},
	{"1[1]", "/a", "", "element(a)*"},
	{"1", "/a", "", clash},
	{"a", "//b", "/@c", "attribute(c)*"},
	{"1", "[1]", "", "xs:integer?"},
	{"(1,2)", "[1]", "", "xs:integer*"},
	{"a", "[a]", "", "element(a)*"},
	{"a", "|a", "", "node()*"},
	{"1", " and 1", "", "xs:boolean"},
	{"1", " or 1", "", "xs:boolean"},
	{"let $x:=1", ",$x:=$x+1", " return $x", "xs:integer"},
	{`let $x:="a"`, ",$x:=$x", " return $x+1", clash},
	{"let $x:=1", ",$x:=($x,1)", " return $x", "xs:integer+"},
	{"for $x in 1", ",$x in $x", " return $x", "xs:integer"},
	{"for $x in 1", ",$x at $p in ($x,$x)", " return $p", "xs:integer+"},
	{"for $x in a", ",$x in $x", " return $x/b", "element(b)*"},
	{"some $x in 1", ",$x in $x", " satisfies $x+1", "xs:boolean"},
	{"some $x in 'a'", ",$x in $x", " satisfies $x+1", clash},
	{"typeswitch(1)", "case $v as node()return $v ", "default $v return $v", "item()"},
	{"typeswitch(1)", "case xs:string return 1 ", "default return 2.5", "xs:decimal"},
	{"<a>", "{1}", "</a>", "element(a)"},
	{"<a>", "<b/>", "</a>", "element(a)"},
	{"<a b='", "{1}", "'/>", "element(a)"},
	{"<a b='", "{1}", "{-'a'}'/>", clash},
	{"'", "t", "'", "xs:string"},
}

func TestP151Long(t *testing.T) {
	t.Parallel()
	for _, l := range longs {
		room := (api.MaxQuery - len(l.front) - len(l.end)) / len(l.unit)
		for _, count := range []int{1, 2, 100} {
			hold(t, l.front+strings.Repeat(l.unit, count)+l.end, l.want)
		}
		text := l.front + strings.Repeat(l.unit, room) + l.end
		ty, err := infer.Module(coreOf(t, text+strings.Repeat(" ", api.MaxQuery-len(text))))
		if got := typeText(ty, err == api.OK); got != l.want {
			t.Errorf("Module of %q: %s, not %s", short(text), got, l.want)
		}
	}
}

// As many declarations as there is room for: each Global is asked for behind all of them.
func TestP151ManyGlobals(t *testing.T) {
	t.Parallel()
	const count = 1200
	var w strings.Builder
	for i := range count {
		ty := "xs:integer"
		if i == count/2 {
			ty = "xs:string"
		}
		fmt.Fprintf(&w, "declare variable $g%d as %s:=$g%d;", i, ty, max(0, i-1))
	}
	front := strings.Replace(w.String(), ":=$g0", ":=1", 1)
	for i := range count {
		want := "xs:integer"
		if i == count/2 {
			want = clash
		}
		if i%100 == 0 {
			hold(t, fmt.Sprintf("%s$g%d+0", front, i), want)
		}
	}
	w.Reset()
	w.WriteString(front)
	for i := range count {
		fmt.Fprintf(&w, "$g%d,", i)
	}
	hold(t, w.String()+"1", "xs:anyAtomicType+")
	hold(t, strings.TrimSuffix(strings.Replace(w.String(), fmt.Sprintf("$g%d,", count/2), "", 1), ","), "xs:integer+")
}

// deeps are expressions that lie in themselves again and again, and what the type of an integer so becomes.
var deeps = []struct {
	levels int
	lies   func(e api.Expr) api.Expr
	want   string
}{
	{1, func(e api.Expr) api.Expr { return expr(api.Neg, e) }, "xs:integer"},
	{1, func(e api.Expr) api.Expr { return expr(api.Add, e, number(1)) }, "xs:integer"},
	{1, func(e api.Expr) api.Expr { return expr(api.Add, number(1), e) }, "xs:integer"},
	{1, func(e api.Expr) api.Expr { return expr(api.VEq, e, variable("nowhere")) }, "xs:boolean?"},
	{1, func(e api.Expr) api.Expr { return expr(api.Seq, number(1), e, number(2)) }, "xs:integer+"},
	{1, func(e api.Expr) api.Expr { return expr(api.If, e, number(1), number(2)) }, "xs:integer"},
	{1, func(e api.Expr) api.Expr { return expr(api.If, number(1), e, number(2)) }, "xs:integer"},
	{1, func(e api.Expr) api.Expr { return expr(api.If, number(1), number(2), e) }, "xs:integer"},
	{1, func(e api.Expr) api.Expr { return named(api.For, "x", e, number(1)) }, "xs:integer"},
	{1, func(e api.Expr) api.Expr { return named(api.For, "x", number(1), e) }, "xs:integer"},
	{1, func(e api.Expr) api.Expr { return named(api.Let, "x", e, variable("x")) }, "xs:integer"},
	{1, func(e api.Expr) api.Expr { return named(api.Let, "x", str("a"), e) }, "xs:integer"},
	{1, func(e api.Expr) api.Expr { return named(api.Order, "x", e, number(1), number(1), variable("x")) }, "xs:integer?"},
	{1, func(e api.Expr) api.Expr { return named(api.Order, "x", number(1), e, number(1), variable("x")) }, "xs:integer?"},
	{1, func(e api.Expr) api.Expr { return named(api.Order, "x", number(1), number(1), e, variable("x")) }, "xs:integer?"},
	{1, func(e api.Expr) api.Expr { return named(api.Order, "x", number(1), number(1), number(1), e) }, "xs:integer?"},
	{1, func(e api.Expr) api.Expr { return named(api.Some, "x", e, variable("x")) }, "xs:boolean"},
	{1, func(e api.Expr) api.Expr { return named(api.Every, "x", number(1), e) }, "xs:boolean"},
	{1, func(e api.Expr) api.Expr { return expr(api.Path, variable("nowhere"), e) }, "xs:integer*"},
	{1, func(e api.Expr) api.Expr { return expr(api.Path, e, number(1)) }, clash},
	{1, func(e api.Expr) api.Expr { return expr(api.Filter, e, number(1)) }, "xs:integer?"},
	{1, func(e api.Expr) api.Expr { return expr(api.Filter, number(1), e) }, "xs:integer?"},
	{1, func(e api.Expr) api.Expr { return expr(api.Union, e, number(1)) }, "node()*"},
	{1, func(e api.Expr) api.Expr { return typed(api.Treat, of(api.IntItem, api.One), e) }, "xs:integer"},
	{1, func(e api.Expr) api.Expr { return named(api.Call, "count", e) }, "xs:integer"},
	{1, func(e api.Expr) api.Expr { return named(api.Call, "reverse", e) }, "xs:integer*"},
	{1, func(e api.Expr) api.Expr { return named(api.Call, "insert-before", number(1), number(1), e) }, "xs:integer*"},
	{1, func(e api.Expr) api.Expr { return named(api.Call, "local:f", e) }, "xs:integer"},
	{1, func(e api.Expr) api.Expr { return expr(api.MakeElem, str("a"), e) }, "element(a)"},
	{1, func(e api.Expr) api.Expr { return expr(api.MakeElem, e) }, "element()"},
	{2, func(e api.Expr) api.Expr {
		return expr(api.Switch, e, named(api.Case, "x", variable("x")), named(api.Case, "x", variable("x")))
	}, "xs:integer?"},
	{2, func(e api.Expr) api.Expr {
		return expr(api.Switch, number(1), named(api.Case, "x", e), named(api.Case, "x", number(1)))
	}, "xs:integer"},
	{2, func(e api.Expr) api.Expr {
		return expr(api.Switch, number(1), named(api.Case, "x", number(1)), named(api.Case, "x", e))
	}, "xs:integer"},
}

// deepQuery is a query of a function that may be called deep within.
func deepQuery() api.Module {
	return api.Module{Funcs: []api.Func{{Name: "local:f", Params: []api.Param{{Name: "a"}}, Result: of(api.IntItem, api.One), Body: number(1)}}}
}

// As deep as what is handed in may lie in itself, 2^16 levels: each by itself, and all by turns; a clash at the bottom is told.
func TestP151Deep(t *testing.T) {
	t.Parallel()
	for i, d := range deeps {
		holdDeep := func(inner api.Expr, levels int, want string) {
			m := deepQuery()
			m.Body = inner
			for range levels/d.levels - 2 {
				m.Body = d.lies(m.Body)
			}
			ty, err := infer.Module(m)
			if got := typeText(ty, err == api.OK); got != want {
				t.Errorf("the deep tree %d: %s, not %s", i, got, want)
			}
		}
		holdDeep(number(0), 1<<16, d.want)
		holdDeep(expr(api.Neg, str("a")), 1<<10, clash)
	}
}

func TestP151DeepOfAll(t *testing.T) {
	t.Parallel()
	for _, inner := range []api.Expr{number(0), expr(api.Neg, str("a"))} {
		m := deepQuery()
		m.Body = inner
		for i, levels := 0, 1; levels < 1<<16-6; i++ {
			d := deeps[i%len(deeps)]
			// So that nothing clashes that isn't meant to.
			m.Body, levels = d.lies(typed(api.Treat, of(api.AnyItem, api.Star), m.Body)), levels+d.levels+1
		}
		m.Body = typed(api.Treat, of(api.IntItem, api.One), m.Body)
		want := "xs:integer"
		if inner.Op == api.Neg {
			want = clash
		}
		if got := typeText(foundModule(t, m)); got != want {
			t.Errorf("all deep trees: %s, not %s", got, want)
		}
	}
}

// As wide as can be.
func TestP151Wide(t *testing.T) {
	t.Parallel()
	const count = 1 << 20
	e := expr(api.Seq, slices.Repeat([]api.Expr{number(1)}, count)...)
	holdLight := func(vars []api.Param, want string) {
		t.Helper()
		ty, err := infer.Expr(api.Module{}, vars, e)
		if got := typeText(ty, err == api.OK); got != want {
			t.Errorf("a wide tree: %s, not %s", got, want)
		}
	}
	holdLight(nil, "xs:integer+")
	e.Kids[count-1] = variable("x")
	holdLight([]api.Param{{Name: "x", Type: of(api.StrItem, api.One)}}, "xs:anyAtomicType+")
	vars := slices.Repeat([]api.Param{{Name: "x", Type: of(api.StrItem, api.One)}}, count)
	vars[count-1].Type = of(api.IntItem, api.Star)
	holdLight(vars, "xs:integer+")
	e.Kids[count/2] = expr(api.Neg, str("a"))
	holdLight(vars, clash)
}

// Many names in scope, and each asked for many times: what is bound last is not looked for through all the others.
func TestP151ManyNames(t *testing.T) {
	t.Parallel()
	const count = 1 << 15
	inner := expr(api.Seq)
	for i := range count {
		inner.Kids = append(inner.Kids, variable(fmt.Sprint("v", i)), variable("v0"), variable("nowhere"))
	}
	e := expr(api.Treat, inner)
	e.Type = of(api.IntItem, api.Star)
	for i := range count {
		e = named(api.Let, fmt.Sprint("v", i), number(i), e)
	}
	ty, err := infer.Expr(api.Module{}, nil, e)
	if ty != of(api.IntItem, api.Star) || err != api.OK {
		t.Errorf("many names: %v, %v", ty, err)
	}
}
