package norm_test

import (
	"fmt"
	"slices"
	"strings"
	"testing"

	"espalier/api"
	"espalier/norm"
)

// long is a query of one unit after the other, and the notation of its core: as often opens what each unit opens, and closes what it closes.
type long struct {
	front, unit, end                       string
	coreFront, opens, middle, closes, end2 string
}

var longs = []long{
	{"1", ",1", "", "seq(1", ", 1", "", "", ")"},
	{"a", ",a", "", "seq(path(., child::a)", ", path(., child::a)", "", "", ")"},
	{"a", "/a", "", "", "path(", "path(., child::a)", ", child::a)", ""},
	{"", "/a", "", "", "path(", "root", ", child::a)", ""},
	{"", "//a", "", "", "path(path(", "root", ", descendant-or-self::node()), child::a)", ""},
	{"a", "//a[b]", "", "", "path(path(", "path(., child::a)", ", descendant-or-self::node()), filter(child::a, path(., child::b)))", ""},
	{"a", "/(a/b)", "", "", "path(", "path(., child::a)", ", path(path(., child::a), child::b))", ""},
	{"a", "[1]", "", "path(., ", "filter(", "child::a", ", 1)", ")"},
	{"1", "[1]", "", "", "filter(", "1", ", 1)", ""},
	{"(a/b)", "[c]", "", "", "filter(", "path(path(., child::a), child::b)", ", path(., child::c))", ""},
	{"/a", "[b]", "/c", "path(path(root, ", "filter(", "child::a", ", path(., child::b))", "), child::c)"},
	{"a/b[", "c,", "d]", "path(path(., child::a), filter(child::b, seq(", "path(., child::c), ", "path(., child::d)", "", ")))"},
	{"", "-", "1", "", "neg(", "1", ")", ""},
	{"", "-", "a", "", "neg(", "path(., child::a)", ")", ""},
	{"1", "+a", "", "", "add(", "1", ", path(., child::a))", ""},
	{"a", "|b[1]", "", "", "union(", "path(., child::a)", ", path(., filter(child::b, 1)))", ""},
	{"a", " or a=1", "", "", "or(", "path(., child::a)", ", geq(path(., child::a), 1))", ""},
	{"for $x in a", ",$x in b", " return c", "for $x(path(., child::a), ", "for $x(path(., child::b), ", "path(., child::c)", ")", ")"},
	{"for $x in 1", ",$x at $y in $x", " where 2 return a", "for $x(1, ", "for $x at $y($x, ", "if(2, path(., child::a), seq())", ")", ")"},
	{"let $x:=1", ",$y:=a", " return $x", "let $x(1, ", "let $y(path(., child::a), ", "$x", ")", ")"},
	{"let $x:=1 ", "for $y in $x let $x:=$y ", "where a return $x", "let $x(1, ", "for $y($x, let $x($y, ", "if(path(., child::a), $x, seq())", "))", ")"},
	{"for $x in ", "1,$x in ", "2 return 3", "", "for $x(1, ", "for $x(2, 3)", ")", ""},
	{"some $x in a", ",$x in $x", " satisfies b", "some $x(path(., child::a), ", "some $x($x, ", "path(., child::b)", ")", ")"},
	{"every $x in a", ",$y in 1", " satisfies $y", "every $x(path(., child::a), ", "every $y(1, ", "$y", ")", ")"},
	{"typeswitch(a)", "case node()return b ", "default return 1", "switch(path(., child::a), ", "case node()(path(., child::b)), ", "case item()*(1)", "", ")"},
	{"<a>", "<b/>", "</a>", `elem("a"`, `, elem("b")`, "", "", ")"},
	{"<a>", "{b}t", "</a>", `elem("a"`, `, path(., child::b), text("t")`, "", "", ")"},
	{"<a b='", "{1}t", "'/>", `elem("a", attr("b"`, `, 1, "t"`, "", "", "))"},
	{"<a>", "t", "</a>", `elem("a", text("`, "t", "", "", `"))`},
	{"'", "t", "'", `"`, "t", "", "", `"`},
	{"count((", "a,", "1))", "call count(seq(", "path(., child::a), ", "1", "", "))"},
	{"", "string(),", "1", "seq(", "call string(.), ", "1", "", ")"},
	{"", "xs:integer(a),", "1", "seq(", "cast xs:integer?(path(., child::a)), ", "1", "", ")"},
	{"declare function local:f($a as node(),$b){$a};", "local:f(a,b),", "1", "seq(", "call local:f(convert node()(path(., child::a)), path(., child::b)), ", "1", "", ")"},
	{"", strings.Repeat("count(", 60) + "a" + strings.Repeat(")", 60) + ",", "1", "seq(", strings.Repeat("call count(", 60) + "path(., child::a)" + strings.Repeat(")", 60) + ", ", "1", "", ")"},
	{"", strings.Repeat("<a b='t'>", 60) + strings.Repeat("</a>", 60) + ",", "1", "seq(", strings.Repeat(`elem("a", attr("b", "t")`+", ", 59) + `elem("a", attr("b", "t")` + strings.Repeat(")", 60) + ", ", "1", "", ")"},
	{"", strings.Repeat("for $x in a return ", 60) + "$x,", "1", "seq(", strings.Repeat("for $x(path(., child::a), ", 60) + "$x" + strings.Repeat(")", 60) + ", ", "1", "", ")"},
	{"", "for $x in a where b order by c return d,", "1", "seq(", "order $x(path(., child::a), path(., child::b), path(., child::c), path(., child::d)), ", "1", "", ")"},
}

// holdLight holds the core of a query to what the notation says, and to nothing else, for what is long takes long.
func holdLight(t *testing.T, what string, m api.Module, want string) {
	t.Helper()
	core, err := norm.Core(m)
	if got := show(core.Body); err != api.OK || got != want || !norm.IsCore(core.Body) {
		t.Errorf("Core of %s: %v, %s, not %s", short(what), err, short(got), short(want))
	}
}

// As long as a query may be, and shorter.
func TestP131Long(t *testing.T) {
	t.Parallel()
	for _, l := range longs {
		most := (api.MaxQuery - len(l.front) - len(l.end)) / len(l.unit)
		for _, k := range []int{1, 2, 3, min(100, most), most} {
			text := l.front + strings.Repeat(l.unit, k) + l.end
			want := l.coreFront + strings.Repeat(l.opens, k) + l.middle + strings.Repeat(l.closes, k) + l.end2
			if k < most {
				hold(t, text, want)
			} else {
				text += strings.Repeat(" ", api.MaxQuery-len(text))
				holdLight(t, text, read(t, text), want)
			}
		}
	}
}

// As many declarations as there is room for.
func TestP131ManyGlobals(t *testing.T) {
	const count = 1500
	text, want := many(count, "declare variable $g#:=a;"), many(count, "variable g# as item()* := path(., child::a); ")
	holdModule(t, text+"$g0,$g1499", want+"seq($g0, $g1499)")
	text, want = many(count, "declare variable $g# as node():=a;"), many(count, "variable g# as node() := convert node()(path(., child::a)); ")
	holdModule(t, text+"1", want+"1")
}

// What an element holds is as much as there is room for.
func TestP131ManyAttributes(t *testing.T) {
	const count = 3000
	hold(t, "<a "+many(count, "b#='{c}' ")+"/>", `elem("a"`+many(count, `, attr("b#", path(., child::c))`)+")")
}

// deeps are expressions that lie in themselves again and again, how many levels that is each time, and the notation of what is opened and closed by that.
var deeps = []struct {
	levels        int
	lies          func(e api.Expr) api.Expr
	opens, closes string
}{
	{1, func(e api.Expr) api.Expr { return expr(api.Neg, e) }, "neg(", ")"},
	{1, func(e api.Expr) api.Expr { return expr(api.Seq, number(1), e, number(2)) }, "seq(1, ", ", 2)"},
	{1, func(e api.Expr) api.Expr { return expr(api.Filter, e, step("a")) }, "filter(", ", path(., child::a))"},
	{1, func(e api.Expr) api.Expr { return expr(api.Filter, number(1), e) }, "filter(1, ", ")"},
	{2, func(e api.Expr) api.Expr { return expr(api.Filter, step("a"), e) }, "path(., filter(child::a, ", "))"},
	{1, func(e api.Expr) api.Expr { return expr(api.Path, e, step("a")) }, "path(", ", child::a)"},
	{2, func(e api.Expr) api.Expr { return expr(api.Path, step("a"), e) }, "path(path(., child::a), ", ")"},
	{1, func(e api.Expr) api.Expr { return expr(api.Path, number(1), expr(api.Filter, step("a"), e)) }, "path(1, filter(child::a, ", "))"},
	{1, func(e api.Expr) api.Expr { return named(api.Call, "count", e) }, "call count(", ")"},
	{1, func(e api.Expr) api.Expr { return named(api.Call, "xs:string", e) }, "cast xs:string?(", ")"},
	{1, func(e api.Expr) api.Expr { return named(api.Direct, "a", e) }, `elem("a", `, ")"},
	{2, func(e api.Expr) api.Expr { return named(api.Direct, "a", named(api.DirAttr, "b", e)) }, `elem("a", attr("b", `, "))"},
	{1, func(e api.Expr) api.Expr { return named(api.MakeElem, "a", e) }, `elem("a", `, ")"},
	{1, func(e api.Expr) api.Expr { return expr(api.MakeAttr, e, number(1)) }, "attr(", ", 1)"},
	{2, func(e api.Expr) api.Expr { return expr(api.Flwor, named(api.For, "x", e), number(1)) }, "for $x(", ", 1)"},
	{1, func(e api.Expr) api.Expr { return expr(api.Flwor, named(api.Let, "x", number(1)), e) }, "let $x(1, ", ")"},
	{2, func(e api.Expr) api.Expr { return expr(api.Flwor, expr(api.Where, e), number(1)) }, "if(", ", 1, seq())"},
	{1, func(e api.Expr) api.Expr { return expr(api.Flwor, e) }, "", ""},
	{2, func(e api.Expr) api.Expr {
		return expr(api.Flwor, named(api.For, "x", number(1)), expr(api.Order, e), number(2))
	}, "order $x(1, true, ", ", 2)"},
	{1, func(e api.Expr) api.Expr { return named(api.Some, "x", number(1), e) }, "some $x(1, ", ")"},
	{2, func(e api.Expr) api.Expr { return expr(api.Switch, number(1), named(api.Case, "x", e)) }, "switch(1, case $x as empty-sequence()!{Item:0 Name: Occ:0}(", "))"},
	{2, func(e api.Expr) api.Expr { return named(api.Call, "local:f", number(1), e) }, "call local:f(convert node()(1), convert xs:integer(", "))"},
}

// deepQuery is a query of a function that may be called deep within.
func deepQuery() api.Module {
	return api.Module{Funcs: []api.Func{{Name: "local:f", Params: []api.Param{{Name: "a", Type: api.SeqType{Item: api.NodeItem}}, {Name: "b", Type: api.SeqType{Item: api.IntItem}}}, Body: number(1)}}, Body: number(0)}
}

// As deep as what is handed in may lie in itself, 2^16 levels: each by itself, and all by turns.
func TestP131Deep(t *testing.T) {
	t.Parallel()
	for i, d := range deeps {
		m := deepQuery()
		count := 1<<16/d.levels - 1
		for range count {
			m.Body = d.lies(m.Body)
		}
		holdLight(t, fmt.Sprint("deep tree ", i), m, strings.Repeat(d.opens, count)+"0"+strings.Repeat(d.closes, count))
	}
	m, want := deepQuery(), []string{"0"}
	for i, levels := 0, 1; levels < 1<<16-2; i++ {
		d := deeps[i%len(deeps)]
		m.Body, want, levels = d.lies(m.Body), append(want, d.closes), levels+d.levels
	}
	back := slices.Clone(want[1:])
	for i := range back {
		back[len(back)-1-i] = deeps[i%len(deeps)].opens
	}
	core, err := brought(t, m)
	if got := show(core.Body); err != api.OK || got != strings.Join(back, "")+strings.Join(want, "") {
		t.Errorf("Core of all deep trees: %v, %s", err, short(got))
	}
}

// A step at the head of many filters, there and where no path walks to it.
func TestP132Heads(t *testing.T) {
	t.Parallel()
	for _, count := range []int{0, 1, 2, 100, 1<<16 - 2} {
		head, kid, none := step("a"), expr(api.Path, number(1), step("a")), number(1)
		for range count {
			head, kid, none = expr(api.Filter, head, number(1)), expr(api.Filter, number(1), kid), expr(api.Filter, none, number(1))
		}
		holdCore(t, walkedTo(head), true)
		holdCore(t, head, false)
		holdCore(t, expr(api.Path, head, number(1)), false)
		holdCore(t, kid, true)
		holdCore(t, walkedTo(none), true)
		holdCore(t, expr(api.Filter, none, step("a")), false)
	}
}

// Around what lies 2^16 levels deep all that is core, by turns.
func TestP132Deep(t *testing.T) {
	for op, core := range map[api.Op]bool{api.Dot: true, api.Direct: false, api.Step: false} {
		e := expr(op)
		for levels := 1; levels < 1<<16-100; levels++ {
			for _, a := range []api.Op{api.Path, api.Op(levels % api.Ops)} {
				count := coreOps[a]
				if count == 0 {
					continue
				}
				outer := ofCount(a, count)
				outer.Kids[levels/api.Ops%count] = e
				e = outer
				levels++
			}
		}
		if got := norm.IsCore(e); got != core {
			t.Errorf("IsCore of %s deep within: %v", opWords[op], got)
		}
	}
}

// All the names that one expression can bind and ask for.
func TestP133Long(t *testing.T) {
	const count = 1500
	front := many(count, "declare variable $g#:=1;")
	holdNames := func(text, want string) {
		t.Helper()
		core := coreOf(t, front+text)
		if got := fmt.Sprint(freeOf(core)); got != "["+strings.TrimSpace(want)+"]" {
			t.Errorf("the free names of %q: %s", short(text), short(got))
		}
	}
	holdNames(many(count, "$g#,")+"$g0", many(count, "g# "))
	holdNames("let $y:=1"+many(count, ",$y:=$g#")+" return $y", many(count, "g# "))
	holdNames("for $y in 1"+many(count, ",$g# in $g#")+" return($g0,$g7)", many(count, "g# "))
	holdNames("<a b='"+many(count, "{$g#}")+"'>{$g0}</a>", many(count, "g# "))
	holdNames("$g3"+many(count, "[$g#]"), "g3 "+strings.Replace(many(count, "g# "), "g3 ", "", 1))
}
