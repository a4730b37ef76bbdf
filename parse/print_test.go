package parse_test

import (
	"math"
	"math/rand"
	"strings"
	"testing"

	"espalier/api"
	"espalier/parse"
)

func TestP112Types(t *testing.T) {
	names := map[api.ItemKind]string{
		api.IntItem: "xs:integer", api.DecItem: "xs:decimal", api.StrItem: "xs:string", api.BoolItem: "xs:boolean", api.UntItem: "xs:untypedAtomic", api.AtomItem: "xs:anyAtomicType",
		api.DocItem: "document-node()", api.ElemItem: "element()", api.AttrItem: "attribute()", api.TextItem: "text()", api.ComItem: "comment()", api.NodeItem: "node()", api.AnyItem: "item()",
	}
	holdType := func(want string, x api.SeqType) {
		t.Helper()
		if got := parse.Type(x); got != want {
			t.Errorf("Type(%+v): %q; not %q", x, got, want)
		}
		if m := taken(t, "1 instance of "+want); m.Body.Type != x && x.Item != api.NoItem {
			t.Errorf("%q is read as %+v, not %+v", want, m.Body.Type, x)
		}
	}
	for occ, mark := range map[api.Occ]string{api.One: "", api.Opt: "?", api.Star: "*", api.Plus: "+"} {
		for item, name := range names {
			holdType(name+mark, api.SeqType{Item: item, Occ: occ})
		}
		for _, name := range []string{"a", "element", "é-1.·"} {
			holdType("element("+name+")"+mark, api.SeqType{Item: api.ElemItem, Name: name, Occ: occ})
			holdType("attribute("+name+")"+mark, api.SeqType{Item: api.AttrItem, Name: name, Occ: occ})
		}
		holdType("empty-sequence()", api.SeqType{Item: api.NoItem, Occ: occ})
	}
	if len(names) != api.ItemKinds-1 {
		t.Errorf("%d kinds of items are held", len(names))
	}
}

// Type ends at all arguments.
func TestP112NoTypes(t *testing.T) {
	for _, item := range []api.ItemKind{-1, 0, 5, 13, 14, 15, math.MinInt, math.MaxInt} {
		for _, occ := range []api.Occ{-1, 0, 3, 4, math.MinInt, math.MaxInt} {
			for _, name := range []string{"", "a", "\xff", "a b", ")"} {
				x := api.SeqType{Item: item, Name: name, Occ: occ}
				if parse.Type(x) != parse.Type(x) {
					t.Errorf("Type(%+v) is no one string", x)
				}
			}
		}
	}
}

// Trees whose operands must stand in parentheses, in every place where an expression may stand.
func TestP112Parentheses(t *testing.T) {
	inner := []string{
		"1", "(1,2)", "()", "for $x in 1 return 2", "some $x in 1 satisfies 2", "every $x in 1 satisfies 2", "typeswitch (1) case item() return 2 default return 3", "if (1) then 2 else 3", "1 or 2", "1 and 2", "1 eq 2", "1 < 2", "a << b", "1 to 2", "1 + 2", "1 - 2", "1 * 2", "1 mod 2", "a union b", "a | b", "a except b", "a intersect b",
		"1 instance of xs:integer", "1 instance of item()*", "1 instance of empty-sequence()", "1 treat as node()", "1 treat as node()+", "1 castable as xs:string", "1 cast as xs:string?", "- 1", "- - a", "/", "/a", "//a", "a/b", "a//b", "a/descendant-or-self::node()", "a/(b/c)", "a[1]", "(a/b)[1]", "a", "*", "..", ".", "@a", "text()", "child::attribute(a)", "attribute(a)", "attribute::element()", "f(1)", "fn:if(1)", "fn:text()", "$x", "'a'", "1.0", "element a {}", "element {1} {2}", "text {1,2}", "<a/>", "<a b='{1}'>{2}</a>", "for", "element", "-1 + (2, 3)", "2 * /", "1 = /", "- /", "1 + (1 instance of node())", "1 to 2 treat as node()",
	}
	outer := []string{
		"(%)", "%, 1", "1, %", "%, %", "%[1]", "a[%]", "% + 1", "1 + %", "% - 1", "1 - %", "% * 2", "2 * %", "% div 2", "% idiv %", "% to 3", "3 to %", "% = 4", "4 = %", "% < 4", "4 < %", "% << 4", "4 >> %", "% is %", "% or 5", "5 or %", "% and 5", "5 and %", "% | b", "b | %", "% intersect b", "b except %", "% union %",
		"% instance of node()", "% instance of node()?", "% treat as item()", "% castable as xs:string", "% cast as xs:string", "(% instance of node()) + 1", "(% treat as node()) * 1", "(% cast as xs:string) * 1", "-%", "--%", "%/b", "b/%", "%//b", "b//%", "/%", "//%", "(%)/b[%]/c", "f(%)", "f(1, %, 2)", "element {%} {%}", "element a {%}", "attribute {%} {}", "text {%}", "comment {%}", "document {%}", "<a>{%}</a>", "<a>t{%}{%}u</a>", "<a b='{%}x{%}'>{%}</a>",
		"if (%) then % else %", "if (1) then % else % + 1", "for $x in %, $y in %, $z in 1 return %", "for $x in % for $y in % let $z := % let $v := %, $w := % return %", "let $x := % where % order by % return %", "let $x := 1 order by % descending return %", "some $x in %, $y in % satisfies %", "every $x in % satisfies % or 1", "some $x in 1 satisfies every $y in % satisfies %", "typeswitch (%) case item() return % case $v as node() return % default return %", "typeswitch (%) case text() return % default $w return % = 1",
		"declare variable $x := %; declare variable $y as node() := %; %", "declare function f() {%}; declare function g($a) as node() {%, %}; %",
	}
	for _, o := range outer {
		for _, i := range inner {
			taken(t, strings.ReplaceAll(o, "%", "("+i+")"))
			// As it stands it may be another thing, or none.
			if m, e := parse.Parse(strings.ReplaceAll(o, "%", i)); e == api.OK {
				back(t, o+" of "+i, m)
			}
		}
	}
}

// What is printed nests no deeper than what was read: Expr's string in parentheses one deeper, for these.
func TestP112Nest(t *testing.T) {
	g := rand.New(rand.NewSource(112))
	for range 1000 {
		s := nested(g, 63, "1")
		m := taken(t, s)
		if n, e := parse.Parse("(" + parse.Expr(m.Body) + ")"); e != api.OK || !sameExpr(n.Body, m.Body) {
			t.Fatalf("Expr(%q): %q: %v", s, parse.Expr(m.Body), e)
		}
	}
	for _, s := range []string{"1 cast as xs:integer castable as xs:integer treat as item() instance of item()", "1 cast as xs:integer treat as item()", "1 castable as xs:integer instance of item()", "1 instance of item() intersect 2 instance of item()", "1 treat as item() except 2 cast as xs:integer", "-1 cast as xs:integer", "- - -1", "1 or 2 and 3 = 4 to 5 + 6 * 7 | 8 intersect 9", "9 intersect 8 | 7 * 6 + 5 to 4 = 3 and 2 or 1", "1 or 2 or 3", "1 and 2 and 3", "1 - 2 - 3", "1 * 2 * 3", "a | b | c", "a except b except c", "-a/b", "a[1][2]", "a/b[1]/c", "/ = 1", "/ | a", "1 instance of node() = 2", "1 instance of node() - 2", "1 instance of empty-sequence() + 2", "for $x in / , $y in 1 return /", "some $x in /, $y in 2 satisfies 3", "a//b/c", "(/)[1]", "-(- 1)", "1 + (2 * 3)", "((a)/(b))[(1)]", "f(())", "text {()}", "<a>{<b/>}</a>", "for $x in 1 return for $y in 2 return 3", "fn:text()", "typeswitch (1,2) case item() return 3 default return 4", "if (1,2) then 3 else 4", "a[1,2]", "text {1,2}", "element {1,2} {3,4}", "<a b='{1,2}'>{3,4}</a>"} {
		for deep := 55; deep <= 64; deep++ {
			deeper := strings.Repeat("f(", deep) + s + strings.Repeat(")", deep)
			if m, e := parse.Parse(deeper); e == api.OK {
				back(t, deeper, m)
			} else if e != api.ErrNest || deep < 60 {
				t.Errorf("Parse(%q): %v", deeper, e)
			}
		}
	}
}

func TestP112NestOfModules(t *testing.T) {
	g := rand.New(rand.NewSource(118))
	for range 300 {
		taken(t, "declare variable $x := "+nested(g, 64, "1")+"; declare function f() {"+nested(g, 63, "1")+"}; "+nested(g, 64, "1"))
		taken(t, "declare variable $x := for $y in 1 return "+nested(g, 63, "1")+"; declare function f() {1, "+nested(g, 63, "1")+"}; 1, "+nested(g, 64, "1"))
	}
}

// What is printed of a text that has nothing in it that it could do without is no longer, so that what was read of it can be read again.
func TestP112Short(t *testing.T) {
	for _, s := range []string{
		"1", "1,2,3", "()", "1+2*3", "(1+2)*3", "a=1", "a|b", "--1", "a", "a/b", "/", "/a", "//a", "a//b", "a//b//c/d", "//a//b", "a[1][2]", "..", "@a", "a/@b/..", "*", "text()", "element(a)", "$x", ".", "f(1,2)", "<a/>", "<a b=\"1\">t{1}u<b/></a>", "<a>{{</a>", `"a"`, `'a"b'`, `"a'b"`, `"a""b'c'd"`, "text {1}", "text {}", "a and b", "1 to 2", "1 instance of item()*", "1 cast as xs:string?", "1.5",
		"for $x in 1 return 2", "for $x in 1,$y in 2 let $z:=3,$v:=4 where 5 order by 6 descending return 7", "some $x in 1,$y in 2 satisfies 3", "if (1) then 2 else 3", "typeswitch (1) case $v as item() return 2 default $w return 3",
	} {
		if text := parse.Print(taken(t, s)); len(text) > len(s) {
			t.Errorf("Print(%q): %q", s, text)
		}
	}
}

// wild makes a tree of anything.
func wild(g *rand.Rand, depth int) api.Expr {
	text := func() string {
		return []string{"", "", "a", "if", "text", "a:b", "\xff", "a b", "}", "\x00", " "}[g.Intn(11)]
	}
	number := func(of int) int {
		return []int{g.Intn(of), g.Intn(of), g.Intn(of), -1, of, math.MinInt, math.MaxInt}[g.Intn(7)]
	}
	e := api.Expr{Op: api.Op(g.Intn(api.Ops)), Name: text(), At: text(), Down: g.Intn(2) == 0}
	if g.Intn(20) == 0 {
		e.Op = api.Op(number(api.Ops))
	}
	e.Val = api.Atom{Kind: api.AtomKind(number(api.Atoms)), N: number(100), Scale: number(20), S: text(), B: g.Intn(2) == 0}
	e.Type = api.SeqType{Item: api.ItemKind(number(api.ItemKinds)), Name: text(), Occ: api.Occ(number(api.Occs))}
	e.Axis = api.Axis(number(api.Axes))
	e.Test = api.Test{Kind: api.TestKind(number(api.Tests)), Name: text()}
	if depth > 0 {
		for range g.Intn(4) {
			e.Kids = append(e.Kids, wild(g, depth-1))
		}
	}
	return e
}

// clone is a copy that shares nothing.
func clone(e api.Expr) api.Expr {
	kids := e.Kids
	e.Kids = nil
	for _, k := range kids {
		e.Kids = append(e.Kids, clone(k))
	}
	return e
}

// Print and Expr end at all arguments, and leave them as they are.
func TestP112NoTrees(t *testing.T) {
	g := rand.New(rand.NewSource(113))
	for range 20000 {
		e := wild(g, g.Intn(5))
		kept := clone(e)
		m := api.Module{Body: e, Globals: []api.Global{{Name: e.Name, Type: e.Type, Body: e}}, Funcs: []api.Func{{Name: e.At, Params: []api.Param{{Name: e.Name, Type: e.Type}}, Result: e.Type, Body: e}}}
		if parse.Expr(e) != parse.Expr(kept) || parse.Print(m) != parse.Print(m) || !sameExpr(e, kept) {
			t.Fatalf("%+v", e)
		}
	}
	parse.Print(api.Module{})
	parse.Expr(api.Expr{})
	nothing := api.Expr{Op: api.Lit, Val: api.Atom{Kind: api.Untyped}}
	parse.Expr(api.Expr{Op: api.Direct, Name: "a", Kids: []api.Expr{{Op: api.DirAttr, Name: "b", Kids: []api.Expr{nothing}}, nothing, nothing}})
	for op := api.Op(-2); op < api.Ops+2; op++ {
		for count := range 5 {
			e := api.Expr{Op: op, Kids: make([]api.Expr, count)}
			parse.Expr(e)
			for kid := range e.Kids {
				e.Kids[kid].Op = op
			}
			parse.Print(api.Module{Body: e})
		}
	}
	deep := api.Expr{Op: api.Lit, Val: api.Atom{Kind: api.Int}}
	for i := range 65536 {
		deep = api.Expr{Op: []api.Op{api.Filter, api.Add, api.Path, api.Call, api.Flwor, api.Direct}[i%6], Kids: []api.Expr{deep, {Op: api.Dot}}}
	}
	if s := parse.Expr(deep); len(s) < 65536 {
		t.Errorf("%d", len(s))
	}
	if s := parse.Expr(api.Expr{Op: api.Lit, Val: api.Atom{Kind: api.Dec, N: 1, Scale: math.MaxInt32}}); len(s) > 100 {
		t.Errorf("a value that isn't right is written in %d bytes", len(s))
	}
}
