package norm_test

import (
	"fmt"
	"strings"
	"testing"

	"espalier/api"
)

// holdErr holds Core of these texts to an error.
func holdErr(t *testing.T, want api.Errno, texts ...string) {
	t.Helper()
	for _, s := range texts {
		if _, got := brought(t, read(t, s)); got != want {
			t.Errorf("Core(%q): %v, not %v", short(s), got, want)
		}
	}
}

// Queries with declarations, and the notation of all of their cores.
func TestP131Modules(t *testing.T) {
	for s, want := range map[string]string{
		"1":                            "1",
		"declare variable $g := 1; $g": "variable g as item()* := 1; $g",
		"declare variable $g as item()* := a; $g":                                                                                "variable g as item()* := path(., child::a); $g",
		"declare variable $g as xs:integer := 1; $g":                                                                             "variable g as xs:integer := convert xs:integer(1); $g",
		"declare variable $g as element(a)+ := a[1]; a":                                                                          "variable g as element(a)+ := convert element(a)+(path(., filter(child::a, 1))); path(., child::a)",
		"declare variable $g as empty-sequence() := (); 1":                                                                       "variable g as empty-sequence() := convert empty-sequence()(seq()); 1",
		"declare variable $g := 1; declare variable $h as node() := $g; $h":                                                      "variable g as item()* := 1; variable h as node() := convert node()($g); $h",
		"declare variable $g as xs:string? := let $x := a return <b>t</b>; 1":                                                    `variable g as xs:string? := convert xs:string?(let $x(path(., child::a), elem("b", text("t")))); 1`,
		"declare function local:f() {a}; 1":                                                                                      "function local:f() as item()* {path(., child::a)}; 1",
		"declare function local:f() as item()* {a}; local:f()":                                                                   "function local:f() as item()* {path(., child::a)}; call local:f()",
		"declare function local:f() as node()* {a}; local:f()":                                                                   "function local:f() as node()* {convert node()*(path(., child::a))}; call local:f()",
		"declare function local:f($a) {$a}; local:f(1)":                                                                          "function local:f(a as item()*) as item()* {$a}; call local:f(1)",
		"declare function local:f($a as item()*) {$a}; local:f(1)":                                                               "function local:f(a as item()*) as item()* {$a}; call local:f(1)",
		"declare function local:f($a as item()) as xs:string {$a}; local:f(b)":                                                   "function local:f(a as item()) as xs:string {convert xs:string($a)}; call local:f(convert item()(path(., child::b)))",
		"declare function local:f($a, $b as xs:integer, $c) {$a, $b, $c}; local:f(1, 2, 3)":                                      "function local:f(a as item()*, b as xs:integer, c as item()*) as item()* {seq($a, $b, $c)}; call local:f(1, convert xs:integer(2), 3)",
		"declare function local:f($a as xs:string, $b as xs:integer?, $c as node()*) as element(e)? {$c[1]}; local:f('1', 2, c)": `function local:f(a as xs:string, b as xs:integer?, c as node()*) as element(e)? {convert element(e)?(filter($c, 1))}; call local:f(convert xs:string("1"), convert xs:integer?(2), convert node()*(path(., child::c)))`,
		// Of two of one name the one of as many Params.
		"declare function local:f($a as xs:integer) {1}; declare function local:f($a as xs:string, $b as node()) {2}; declare function local:f() {3}; local:f(), local:f(4), local:f(5, 6)": "function local:f(a as xs:integer) as item()* {1}; function local:f(a as xs:string, b as node()) as item()* {2}; function local:f() as item()* {3}; seq(call local:f(), call local:f(convert xs:integer(4)), call local:f(convert xs:string(5), convert node()(6)))",
		"declare function local:f($a as xs:integer) {1}; declare function local:g($a as xs:string) {2}; local:g(local:f(3))":                                                                "function local:f(a as xs:integer) as item()* {1}; function local:g(a as xs:string) as item()* {2}; call local:g(convert xs:string(call local:f(convert xs:integer(3))))",
		// Called from a Global, from a Func, ahead of where it's declared, and from itself.
		"declare variable $g as node() := local:f(a); declare function local:f($a as xs:integer) {local:g($a)}; declare function local:g($b as xs:string) {local:f(local:g($b))}; local:g($g)": "variable g as node() := convert node()(call local:f(convert xs:integer(path(., child::a)))); function local:f(a as xs:integer) as item()* {call local:g(convert xs:string($a))}; function local:g(b as xs:string) as item()* {call local:f(convert xs:integer(call local:g(convert xs:string($b))))}; call local:g(convert xs:string($g))",
		"declare function local:f($n as xs:integer) as xs:integer {if ($n le 1) then 1 else $n * local:f($n - 1)}; local:f(5)":                                                                 "function local:f(n as xs:integer) as xs:integer {convert xs:integer(if(vle($n, 1), 1, mul($n, call local:f(convert xs:integer(sub($n, 1))))))}; call local:f(convert xs:integer(5))",
		// One that has the name of one that is there, behind local:, is another one.
		"declare function local:count($a as node()*) {count($a)}; count(1), local:count(2)":                 "function local:count(a as node()*) as item()* {call count($a)}; seq(call count(1), call local:count(convert node()*(2)))",
		"declare function local:string() {string()}; string(), local:string()":                              "function local:string() as item()* {call string(.)}; seq(call string(.), call local:string())",
		"declare function local:name($a as node()) {name(), name($a)}; name(), name(a), local:name(a)":      "function local:name(a as node()) as item()* {seq(call name(.), call name($a))}; seq(call name(.), call name(path(., child::a)), call local:name(convert node()(path(., child::a))))",
		"declare function local:integer($a as xs:string) {xs:integer($a)}; xs:integer(1), local:integer(2)": "function local:integer(a as xs:string) as item()* {cast xs:integer?($a)}; seq(cast xs:integer?(1), call local:integer(convert xs:string(2)))",
	} {
		holdModule(t, s, want)
	}
}

// types are the types' texts: of each kind each count of items.
func types() []string {
	all := []string{"empty-sequence()"}
	for kind := range strings.FieldsSeq("xs:integer xs:decimal xs:string xs:boolean xs:untypedAtomic xs:anyAtomicType item() node() document-node() element() element(a) attribute() attribute(a) text() comment()") {
		all = append(all, kind, kind+"?", kind+"+", kind+"*")
	}
	return all
}

// What is declared of any type is held to it, but of item()*.
func TestP131Types(t *testing.T) {
	for _, typ := range types() {
		holds := func(e string) string { return "convert " + typ + "(" + e + ")" }
		if typ == "item()*" {
			holds = func(e string) string { return e }
		}
		a, b := "path(., child::a)", "path(., child::b)"
		holdModule(t, "declare variable $g as "+typ+" := a; b", "variable g as "+typ+" := "+holds(a)+"; "+b)
		holdModule(t, "declare function local:f() as "+typ+" {a}; b", "function local:f() as "+typ+" {"+holds(a)+"}; "+b)
		holdModule(t, "declare function local:f($p as "+typ+") {$p}; local:f(b)", "function local:f(p as "+typ+") as item()* {$p}; call local:f("+holds(b)+")")
		holdModule(t, "declare function local:f($p as node(), $q as "+typ+") as "+typ+" {$q}; local:f(a, 1), b", "function local:f(p as node(), q as "+typ+") as "+typ+" {"+holds("$q")+"}; seq(call local:f(convert node()("+a+"), "+holds("1")+"), "+b+")")
		holdModule(t, "declare variable $g as node()? := 1; declare variable $h as "+typ+" := ($g, a); 1", "variable g as node()? := convert node()?(1); variable h as "+typ+" := "+holds("seq($g, "+a+")")+"; 1")
	}
}

// As many functions and Params as there may be, each of a type of its own.
func TestP131ManyFuncs(t *testing.T) {
	all := types()
	var text, want, uses, used []string
	for i := range api.MaxFuncs {
		name, count := fmt.Sprint("local:f", i/3), i%3+i/3%6
		var params, shown, given, got []string
		for p := range count {
			typ := all[(i*5+p*11)%len(all)]
			params, shown = append(params, fmt.Sprintf("$p%d as %s", p, typ)), append(shown, fmt.Sprintf("p%d as %s", p, typ))
			given = append(given, fmt.Sprint(p))
			if typ == "item()*" {
				got = append(got, fmt.Sprint(p))
			} else {
				got = append(got, fmt.Sprintf("convert %s(%d)", typ, p))
			}
		}
		text = append(text, fmt.Sprintf("declare function %s(%s) {%d}; ", name, strings.Join(params, ", "), i))
		want = append(want, fmt.Sprintf("function %s(%s) as item()* {%d}; ", name, strings.Join(shown, ", "), i))
		uses, used = append(uses, name+"("+strings.Join(given, ", ")+")"), append(used, "call "+name+"("+strings.Join(got, ", ")+")")
	}
	holdModule(t, strings.Join(text, "")+strings.Join(uses, ", "), strings.Join(want, "")+"seq("+strings.Join(used, ", ")+")")
}

// Each row of the table, as a Global, as a Func and as a Body beside one another.
func TestP131Parts(t *testing.T) {
	rows := allRows()
	for i, r := range rows {
		o, p := rows[(i*3+1)%len(rows)], rows[(i*5+2)%len(rows)]
		core := coreOf(t, atFront+"declare variable $one := ("+r.text+"); declare variable $two as node()* := ("+o.text+"); declare function local:one($v) {"+p.text+"}; declare function local:two($v) as xs:string {"+r.text+"}; "+o.text)
		got := []string{show(core.Globals[1].Body), show(core.Globals[2].Body), show(core.Funcs[3].Body), show(core.Funcs[4].Body), show(core.Body)}
		want := []string{r.alone(), "convert node()*(" + o.alone() + ")", p.alone(), "convert xs:string(" + r.alone() + ")", o.alone()}
		for j := range want {
			if got[j] != want[j] {
				t.Errorf("part %d of %q, %q, %q: %s, not %s", j, r.text, o.text, p.text, got[j], want[j])
			}
		}
	}
}

// many are as many texts, # in each being its number.
func many(count int, s string) string {
	all := ""
	for i := range count {
		all += strings.ReplaceAll(s, "#", fmt.Sprint(i))
	}
	return all
}

// Where a name isn't right, Check's error, and nothing beside it.
func TestP131Errors(t *testing.T) {
	f := "declare function local:f($a) {$a}; "
	holdErr(t, api.ErrLong, many(65, "declare function local:f#() {1}; ")+"1", many(65, "declare function f#() {1}; ")+"$x", "declare function local:f("+strings.TrimSuffix(many(9, "$a#, "), ", ")+") {1}; 1")
	holdErr(t, api.ErrFunc, "f(1)", "count()", "count(1, 2)", "declare function f() {1}; 1", "declare function count($a) {1}; count(1)", "declare function xs:integer($a) {1}; 1", "declare function fn:string() {1}; 1", "declare function string() {1}; string()", f+"local:f()", f+"local:f(1, 2)", f+"f(1)", "xs:integer()", "string(1, 2)", "a[f()]", "<a b='{f()}'/>", "<a>{f()}</a>", "for $x in 1 where f() order by 1 return 2")
	holdErr(t, api.ErrRedo, f+f+"1", "declare function local:f($a, $a) {1}; 1", "declare variable $g := 1; declare variable $g := 2; 1", "for $x at $x in 1 return 2", "for $x at $x in 1 order by 2 return 3", "1, (for $x at $x in 1 return 2)")
	holdErr(t, api.ErrName, "$x", "declare variable $g := $g; 1", "declare variable $g := 1; declare function local:f() {$g}; 1", f+"$a", "(let $x := 1 return 2), $x", "a[$x]", "a/$x", "element a {$x}", "<a b='{$x}'/>", "count($x)", "for $x in $x return 1", "for $x at $p in $p order by 1 return 2")
	holdErr(t, api.ErrSyntax, "let $y := 1 order by $y return 1", "for $x in 1, $y in 2 order by 1 return 2", "for $x in 1 let $y := 2 where 3 order by 4 return 5", "let $x := 1 where 2 order by 3 return 4", "a[let $y := 1 order by $y return 1]", "declare function local:f() {let $y := 1 order by 1 return 1}; 1")
	// The first one of several.
	holdErr(t, api.ErrFunc, "f($x)", "local:g($x)", "declare function f($a, $a) {$x}; $x", "f(), $x")
	holdErr(t, api.ErrName, "$x, f()", "declare variable $g := $x; f()")
	holdErr(t, api.ErrSyntax, "let $y := $x order by $y return f()")
	holdErr(t, api.ErrRedo, "for $x at $x in $y return f()", "declare variable $g := f(); declare variable $g := $x; 1")
}

// Queries that no text has, and whose names aren't right.
func TestP131ErrorTrees(t *testing.T) {
	where, order := expr(api.Where, number(1)), expr(api.Order, number(1))
	loop := named(api.For, "x", number(1))
	one := func(name string, kids ...api.Expr) api.Module {
		return api.Module{Funcs: []api.Func{{Name: name, Body: number(1)}}, Body: named(api.Call, name, kids...)}
	}
	for i, row := range []struct {
		m    api.Module
		want api.Errno
	}{
		{api.Module{Body: variable("x")}, api.ErrName},
		{api.Module{Body: variable("")}, api.ErrName},
		{api.Module{Body: named(api.Call, "")}, api.ErrFunc},
		{api.Module{Body: named(api.Call, "fn:count", number(1))}, api.ErrFunc},
		{api.Module{Body: expr(api.Flwor, order, number(1))}, api.ErrSyntax},
		{api.Module{Body: expr(api.Flwor, order)}, api.ErrSyntax},
		{api.Module{Body: expr(api.Flwor, where, order, number(1))}, api.ErrSyntax},
		{api.Module{Body: expr(api.Flwor, loop, where, where, order, number(1))}, api.ErrSyntax},
		{api.Module{Body: expr(api.Flwor, where, loop, order, number(1))}, api.ErrSyntax},
		{api.Module{Body: expr(api.Flwor, loop, loop, order, number(1))}, api.ErrSyntax},
		{api.Module{Globals: []api.Global{{Name: ""}, {Name: ""}}}, api.ErrRedo},
		{one("count", number(1)), api.ErrFunc},
		{one("string"), api.ErrFunc},
		{one("xs:integer", number(1)), api.ErrFunc},
		{one("xs:string"), api.ErrFunc},
		{one(""), api.ErrFunc},
		{one("local"), api.ErrFunc},
	} {
		if _, got := brought(t, row.m); got != row.want {
			t.Errorf("Core of tree %d: %v, not %v", i, got, row.want)
		}
	}
}
