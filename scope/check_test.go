package scope_test

import (
	"strconv"
	"strings"
	"testing"

	"espalier/api"
)

// function is the text of a function that is declared, without a use for its parameters.
func function(name, params string) string {
	return "declare function " + name + "(" + params + ") {1}; "
}

// many are as many texts, # in each being its number.
func many(count int, s string) string {
	all := ""
	for i := range count {
		all += strings.ReplaceAll(s, "#", strconv.Itoa(i))
	}
	return all
}

// params are as many parameters.
func params(count int) string { return strings.TrimSuffix(many(count, "$p#, "), ", ") }

func TestP122Examples(t *testing.T) {
	hold(t, api.ErrName, "$x")
	hold(t, api.ErrFunc, "f(1)")
	hold(t, api.OK, "let $x := 1 return $x")
	hold(t, api.ErrRedo, "for $x at $x in 1 return 2")
	hold(t, api.ErrSyntax, "let $y := 1 order by $y return 1")
}

// What has no names in it has none that are wrong.
func TestP122Plain(t *testing.T) {
	hold(t, api.OK, "1", "()", "1, 'a', 1.5", ".", "/", "a/b[1]//@c", "1 + 2 to 3", "-1 = (2, 3)", "if (1) then 2 else 3", "<a b='1{2}c'>t{3}<d/></a>", "element a {attribute {'b'} {1}, text {}}, comment {1}, document {2}", "1 instance of xs:integer, 1 cast as xs:string?, 1 castable as xs:string, . treat as node()", "a union b intersect c except d", "a is b, a << b, 1 eq 2 and 3 or 4", "for", "some, every, let, order, return")
}

func TestP122ManyFuncs(t *testing.T) {
	one := function("local:f#", "")
	hold(t, api.OK, many(63, one)+"1", many(64, one)+"1", many(64, one)+"local:f0(), local:f63()", many(64, one)+many(100, "declare variable $g# := 1; ")+"$g99")
	hold(t, api.ErrLong, many(65, one)+"1", many(66, one)+"1", many(1000, one)+"1")
	// Whatever else is wrong.
	hold(t, api.ErrLong, many(65, function("f#", ""))+"1", many(65, function("local:f", ""))+"1", many(65, function("local:f#", "$p, $p"))+"$x, f()", many(65, function("local:f#", params(9)))+"1", many(65, one)+"declare variable $g := $x; declare variable $g := 1; 1")
	hold(t, api.ErrFunc, many(64, function("f#", ""))+"1", many(63, one)+function("f", "")+"1")
	hold(t, api.ErrRedo, many(64, function("local:f", ""))+"1", many(63, one)+function("local:f0", "")+"1", many(63, one)+function("local:f62", "")+"1")
}

func TestP122FuncNames(t *testing.T) {
	hold(t, api.OK, function("local:f", "")+"1", function("local:local", "")+"1", function("local:é-1.·", "")+"1", function("local:count", "$a")+"1", function("local:if", "")+"1")
	for _, name := range []string{"f", "local", "locals", "count", "fn:f", "xs:integer", "xs:f", "Local:f", "LOCAL:f", "locals:f", "llocal:f", "local-f", "local.f", "_local:f", "loca:f", "a:local", "ocal:f", "fn:local", "local1:f", "localf", "if", "declare"} {
		hold(t, api.ErrFunc, function(name, "")+"1", function("local:f", "")+function(name, "")+"1", function(name, "")+function("local:f", "")+"1", function(name, "$p, $p")+"1", function(name, params(9))+"1", "declare variable $g := 1; declare variable $g := 2; "+function(name, "")+"1")
	}
	// No text has such names, but they begin so, or don't.
	with := func(name string) api.Module {
		return api.Module{Funcs: []api.Func{{Name: name, Body: number(1)}}, Body: number(1)}
	}
	for name, want := range map[string]api.Errno{"local:": api.OK, "local::": api.OK, "local: f": api.OK, "local:local:f": api.OK, "": api.ErrFunc, "local": api.ErrFunc, ":": api.ErrFunc, " local:f": api.ErrFunc, "fn:local:f": api.ErrFunc, "local f": api.ErrFunc} {
		if got := checked(t, with(name)); got != want {
			t.Errorf("Check of a function %q: %v, not %v", name, got, want)
		}
	}
}

func TestP122FuncsOfOneName(t *testing.T) {
	none, one, two := function("local:f", ""), function("local:f", "$a"), function("local:f", "$a, $b")
	other, otherOne := function("local:g", ""), function("local:f", "$b")
	hold(t, api.OK, none+one+two+"1", two+one+none+"1", none+other+"1", one+function("local:F", "$a")+"1", one+function("local:ff", "$a")+"1", one+function("local:g", "$a")+function("local:f", params(8))+"local:f(1), local:f(1, 2, 3, 4, 5, 6, 7, 8), local:g(1)")
	hold(t, api.ErrRedo, none+none+"1", one+one+"1", one+otherOne+"1", two+two+"1", none+none+none+"1", none+one+none+"1", one+none+two+otherOne+"1", other+none+other+"1", one+otherOne+one+"1", function("local:f", params(8))+function("local:f", params(8))+"1", "declare function local:f($a as xs:integer) as xs:integer {1}; declare function local:f($b as xs:string) as xs:string {2}; 1")
	// One of a Global's name is no other one of it.
	hold(t, api.OK, "declare variable $f := 1; "+none+"declare variable $local := 1; $f, local:f()")
}

func TestP122ManyParams(t *testing.T) {
	f := func(count int) string { return function("local:f", params(count)) + "1" }
	hold(t, api.OK, f(0), f(1), f(7), f(8))
	hold(t, api.ErrLong, f(9), f(10), f(100), f(5000), function("local:f", "")+f(9), function("local:g", params(9))+function("local:f", params(8))+"1", function("local:f", params(9))+function("local:f", params(10))+"1")
	// Ahead of two of one name.
	hold(t, api.ErrLong, function("local:f", params(8)+", $p0")+"1", function("local:f", strings.Repeat("$a, ", 8)+"$a")+"1")
}

func TestP122ParamsOfOneName(t *testing.T) {
	hold(t, api.OK, function("local:f", "$a, $b")+function("local:g", "$a, $b")+function("local:f", "$a")+"1", function("local:f", "$a, $A, $aa, $local, $f, $b")+"1", "declare variable $a := 1; "+function("local:f", "$a")+"$a")
	hold(t, api.ErrRedo, function("local:f", "$a, $a")+"1", function("local:f", "$a, $b, $a")+"1", function("local:f", "$b, $a, $a")+"1", function("local:f", "$a, $a, $a")+"1", function("local:f", "$a, $a, $b")+"1", function("local:f", params(7)+", $p0")+"1", function("local:f", params(7)+", $p6")+"1", function("local:f", "$a as xs:integer, $a as xs:string")+"1", function("local:f", "")+function("local:f", "$a, $a")+"1", function("local:f", "$a, $b")+function("local:g", "$b, $b")+"1")
}

func TestP122Globals(t *testing.T) {
	hold(t, api.OK, "declare variable $g := 1; 1", "declare variable $g := 1; $g", "declare variable $g := 1; declare variable $h := $g; $h", "declare variable $g := 1; declare variable $h := 2; declare variable $i := $g + $h; $i, $h, $g", "declare variable $g := let $g := 1 return $g; $g", "declare variable $g := 1; declare variable $G := 1; $g, $G", "declare variable $g := local:f(); declare function local:f() {1}; $g", many(2000, "declare variable $g# := 1; ")+"$g0 + $g1999")
	hold(t, api.ErrRedo, "declare variable $g := 1; declare variable $g := 1; 1", "declare variable $g := 1; declare variable $g := $g; 1", "declare variable $g := 1; declare variable $h := 2; declare variable $g := 3; 1", "declare variable $g := 1; declare variable $g := 2; declare variable $g := 3; $g", "declare variable $h := 1; declare variable $g as xs:integer := 1; declare variable $g as xs:string := 'a'; 1", many(2000, "declare variable $g# := 1; ")+"declare variable $g1999 := 1; 1")
	hold(t, api.ErrName, "declare variable $g := $g; $g", "declare variable $g := $h; declare variable $h := 1; 1", "declare variable $h := 1; declare variable $g := $i + $h; declare variable $i := 1; 1", "declare variable $g := 1; $h", "declare variable $g := 1; $G", "declare variable $g := (let $h := 1 return $h); $h", "declare variable $g := $a; declare function local:f($a) {1}; 1")
	// A Global isn't used by functions, wherever these stand.
	hold(t, api.ErrName, "declare variable $g := 1; declare function local:f() {$g}; 1", "declare function local:f() {$g}; declare variable $g := 1; $g", "declare variable $g := 1; declare function local:f($a) {$a, $g}; 1", "declare variable $g := 1; declare function local:f() {1}; declare function local:h() {let $a := 1 return $g}; $g")
}

func TestP122Params(t *testing.T) {
	f := "declare function local:f($a, $b) "
	hold(t, api.OK, f+"{$a, $b, $a}; 1", f+"{let $a := $b return $a}; 1", "declare variable $a := 1; "+f+"{$a}; $a", f+"{$b}; declare variable $a := 1; $a", f+"{$a}; declare function local:g($b, $c) {$b, $c}; 1", f+"{local:f($b, $a)}; 1")
	hold(t, api.ErrName, f+"{1}; $a", f+"{$c}; 1", f+"{$a}; declare function local:g($b, $c) {$a}; 1", "declare function local:g($b, $c) {$a}; "+f+"{$a}; 1", f+"{1}; declare variable $g := $a; 1", "declare variable $a := 1; "+f+"{1}; $b", f+"{local:f($a, $c)}; 1", f+"{let $c := 1 return 2, $c}; 1", "declare function local:f() {$local}; 1", f+"{$f}; 1")
}

func TestP122Calls(t *testing.T) {
	f := "declare function local:f($a, $b) {$a}; "
	hold(t, api.OK, f+"local:f(1, 2)", "count(1)", "concat(1, 2)", "count(concat(count(true()), string(), string(1)))", f+"declare variable $g := local:f(1, 2); $g", f+"declare function local:g() {local:f(1, 2)}; local:g()", "declare function local:g() {local:f(1, 2)}; "+f+"1", "declare function local:f() {local:f()}; 1", "declare function local:f($a) {if ($a) then local:f(local:f($a)) else local:g()}; declare function local:g() {local:f(1)}; local:g()", f+"declare function local:f() {1}; local:f(), local:f(1, local:f())", "fn:count(fn:string())", "a[position() = last()]/b[last()]")
	hold(t, api.ErrFunc, f+"local:f(1)", f+"local:f()", f+"local:f(1, 2, 3)", f+"f(1, 2)", f+"fn:f(1, 2)", f+"local:F(1, 2)", f+"local:g(1, 2)", f+"xs:f(1, 2)", "local:f()", "count()", "count(1, 2)", "count((1, 2), 3)", "true(1)", "concat(1)", "concat(1, 2, 3, 4, 5, 6, 7, 8, 9)", "position(.)", "f()", "fn:f()", "counts(1)", "xs:anyAtomicType(1)", f+"declare variable $g := local:f(); $g", "declare function local:f() {local:f(1)}; 1", "declare function local:f($a) {local:f()}; 1", "declare function local:f() {local:g()}; 1", f+"local:f(1, local:f(2))", f+"count(local:f(2))", "(1, <a b='{f()}'/>)", "<a>{<b>{f()}</b>}</a>")
	// One that has the name of one that is there, behind local:, is another one.
	g := "declare function local:count($a, $b) {count($a) + local:count($a, $b)}; "
	hold(t, api.OK, g+"local:count(1, 2), count(1)", "declare function local:true($a) {true()}; local:true(1), true()")
	hold(t, api.ErrFunc, g+"count(1, 2)", g+"local:count(1)", g+"fn:count(1, 2)", "declare function local:true($a) {1}; true(1)", "declare function local:true($a) {1}; local:true()", "declare function local:integer($a) {1}; local:xs(1)")
}

func TestP122At(t *testing.T) {
	hold(t, api.OK, "for $x at $p in 1 return ($x, $p)", "for $x at $X in 1 return ($x, $X)", "for $x at $xx in 1 return $xx + $x", "for $x in 1 return $x", "for $x at $p in 1, $p at $x in $p return ($x, $p)", "for $x at $p in 1, $x at $p in 2 return 1", "for $x at $p in 1 let $p := $x return $p", "for $p in 1, $x at $p in $p return $p", "for $x in 1, $y at $x in $x return ($x, $y)", "for $x at $p in (1, 2) where $p = $x order by $p return $p")
	hold(t, api.ErrRedo, "for $x at $x in 1 return 2", "for $x at $x in 1 return $x", "for $a in 1, $x at $x in 2 return 3", "for $x at $x in 1, $b in 2 return 3", "let $a := 1 for $x at $x in $a return 3", "1, (for $x at $x in 1 return 2)", "for $x at $x in 1 where 1 order by 1 return 2", "declare function local:f() {for $x at $x in 1 return 1}; 1", "declare variable $g := for $x at $x in 1 return 1; 1", "count(for $x at $x in 1 return 1)", "for $i in (for $x at $x in 1 return 1) return 1")
	hold(t, api.ErrName, "for $x at $p in $p return 1", "for $x at $p in $x return 1", "(for $x at $p in 1 return 1), $p", "$p, (for $x at $p in 1 return 1)", "for $x at $p in 1, $y at $q in $q return 1", "let $p := $p for $x at $p in 1 return 1", "for $x at $p in 1 return $at")
}

// What stands ahead of an order by is one for, or one for and a where.
func TestP122Order(t *testing.T) {
	hold(t, api.OK, "for $x in 1 order by $x return $x", "for $x at $p in 1 order by $p return $x", "for $x in 1 where $x order by $x return $x", "for $x at $p in 1 where $p order by $x return 2", "for $x in 1 order by 1 descending return $x", "for $x in 1 order by 1 ascending return $x", "for $x in (for $y in 1 order by $y return $y) order by $x return (let $z := 1 return $z)", "let $x := 1, $y := 2 for $z in 3 where 4 return 5", "let $x := 1 return for $y in $x order by $y return $y", "for $x in 1 order by (let $y := 1 return $y) return 1", "for $x in 1, $y in 2 where 3 return 4")
	hold(t, api.ErrSyntax, "let $x := 1 order by 1 return 1", "for $x in 1, $y in 2 order by 1 return 1", "for $x in 1 for $y in 2 order by 1 return 1", "for $x in 1 let $y := 2 order by 1 return 1", "let $y := 2 for $x in 1 order by 1 return 1", "let $x := 1 where 1 order by 1 return 1", "for $x in 1, $y in 2 where 3 order by 1 return 1", "for $x in 1 let $y := 2 where 3 order by 1 return 1", "let $y := 2 for $x in 1 where 3 order by 1 descending return 1", "let $x := 1, $y := 2 order by 1 return 1", "for $x in 1, $y in 2, $z in 3 order by 1 return 1", "for $x in 1 return let $y := $x order by $y return $y", "1 + count(let $y := 1 order by $y return $y)", "declare function local:f() {let $y := 1 order by $y return $y}; 1", "declare variable $g := let $y := 1 order by $y return $y; 1")
	// No text has these.
	one, where, order := named(api.For, "x", number(1)), expr(api.Where, number(1)), expr(api.Order, number(1))
	for what, clauses := range map[string][]api.Expr{"where for": {where, one, order}, "where": {where, order}, "two wheres": {one, where, where, order}, "none": {order}, "wheres alone": {where, where, order}, "where for where": {where, one, where, order}} {
		if got := checked(t, api.Module{Body: expr(api.Flwor, append(clauses, number(1))...)}); got != api.ErrSyntax {
			t.Errorf("order by behind %s: %v", what, got)
		}
	}
}
