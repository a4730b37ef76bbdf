package scope_test

import (
	"testing"

	"espalier/api"
)

// faults are Singles, in which nothing but this is wrong.
var faults = []struct {
	text string
	want api.Errno
}{
	{"$v0", api.ErrName},
	{"f0()", api.ErrFunc},
	{"(for $r at $r in 1 return 1)", api.ErrRedo},
	{"(let $o := 1 order by 1 return 1)", api.ErrSyntax},
}

// frames have places in the order in which they are walked over.
var frames = []string{
	"#0, #1", "#0, 1, #1", "1, (#0, 2), #1", "#0 + #1", "#0 * #1 - 1", "#0 to #1", "#0 eq #1", "#0 = #1", "#0 is #1", "#0 and #1", "#0 or 1 or #1", "#0 union #1", "#0 intersect #1", "#0 except #1", "-#0 + -#1",
	"if (#0) then #1 else 1", "if (#0) then 1 else #1", "if (1) then #0 else #1",
	"for $i in #0 return #1", "for $i in #0, $j in #1 return 1", "for $i in #0 let $j := #1 return 1", "for $i in #0 where #1 return 1", "for $i in #0 order by #1 return 1", "for $i in 1 where #0 order by #1 return 1", "for $i in 1 order by #0 return #1", "for $i in 1 where #0 return #1", "for $i at $j in #0 where 1 order by 1 return #1",
	"let $i := #0 return #1", "let $i := #0, $j := #1 return 1", "let $i := 1, $j := #0 return #1", "let $i := #0 for $j in #1 return 1", "let $i := #0 where #1 return 1",
	"some $i in #0 satisfies #1", "every $i in #0 satisfies #1", "some $i in #0, $j in #1 satisfies 1", "every $i in 1, $j in #0 satisfies #1",
	"typeswitch (#0) case item() return #1 default return 1", "typeswitch (#0) case item() return 1 default return #1", "typeswitch (1) case $i as item() return #0 case node() return #1 default return 1", "typeswitch (1) case item() return #0 default $j return #1",
	"#0/#1", "(#0)/(1)/(#1)", "(#0)//(#1)", "(#0)[#1]", "a[#0][#1]", "a[#0]/b[#1]", "/a[#0]//b[1]/@c[#1]",
	"(#0 instance of item(), #1)", "(#0 cast as xs:string, #1 treat as item())", "#0 castable as xs:string or #1",
	"concat(#0, #1)", "concat(1, #0, 2, #1)", "count((#0, #1))", "not(#0) + not(#1)",
	"element a {#0, #1}", "element {#0} {#1}", "attribute {#0} {#1}", "text {#0}, comment {#1}", "document {#0, #1}",
	"<a b='{#0}{#1}'/>", "<a b='{#0}' c='{#1}'/>", "<a b='{#0}'>{#1}</a>", "<a>t{#0}u{#1}</a>", "<a><b>{#0}</b><c d='{#1}'/></a>",
}

// pair puts two texts into a frame.
func pair(frame, one, two string) string {
	return filled(frame, 2, func(i int) string { return []string{one, two}[i] })
}

// Of two faults in an expression the one is told that is walked over first.
func TestP122KidsInOrder(t *testing.T) {
	for _, frame := range frames {
		hold(t, api.OK, pair(frame, "1", "2"))
		for _, a := range faults {
			hold(t, a.want, pair(frame, a.text, "1"), pair(frame, "1", a.text))
			for _, b := range faults {
				hold(t, a.want, pair(frame, a.text, b.text), pair(frame, a.text, "("+pair(frame, b.text, "$v1")+")"), pair("(#0), #1", pair(frame, "1", a.text), b.text))
			}
		}
	}
}

// An expression itself goes ahead of what is in it.
func TestP122ItselfFirst(t *testing.T) {
	for _, f := range faults {
		hold(t, api.ErrFunc, "f1("+f.text+")", "count(1, "+f.text+")", "local:f("+f.text+", "+f.text+")", "true(f1("+f.text+"))", "f1(<a>{"+f.text+"}</a>)")
		hold(t, api.ErrRedo, "for $s at $s in "+f.text+" return 1", "for $s at $s in 1 return "+f.text, "for $i in 1, $s at $s in "+f.text+" return 1", "for $s at $s in 1 where "+f.text+" return 1", "for $s at $s in 1 order by "+f.text+" return 1", "for $s at $s in 1, $i in "+f.text+" return 1")
		hold(t, api.ErrSyntax, "let $i := "+f.text+" order by 1 return 1", "let $i := 1 order by "+f.text+" return 1", "let $i := 1 order by 1 return "+f.text, "for $i in "+f.text+", $j in 1 order by 1 return 1", "for $i in 1 let $j := "+f.text+" order by 1 return 1", "let $i := 1 where "+f.text+" order by 1 return 1", "for $i in 1, $s at $s in "+f.text+" order by 1 return 1", "for $s at $s in 1, $i in 2 order by 1 return 1", "let $i := f1(let $i := 1 order by 1 return 1) order by 1 return 1")
		// What stands ahead of it, though, goes ahead.
		hold(t, f.want, "for $i in "+f.text+", $s at $s in 1 return 1", "for $i in "+f.text+" where f1() order by $v1 return 1", "count("+f.text+") + f1($v1)", "(let $i := "+f.text+" return 1), (let $i := 1 order by 1 return 1)", "for $i in "+f.text+" order by (let $i := 1 order by 1 return 1) return 1", "concat("+f.text+", f1())")
	}
}

// Globals go ahead of functions and these ahead of the query's own, wherever they stand.
func TestP122PartsInOrder(t *testing.T) {
	for _, a := range faults {
		for _, b := range faults {
			hold(t, a.want,
				"declare variable $a := "+a.text+"; declare variable $b := "+b.text+"; 1",
				"declare variable $a := 1; declare variable $b := "+a.text+"; declare variable $c := "+b.text+"; "+b.text,
				"declare variable $a := "+a.text+"; declare function local:f() {"+b.text+"}; 1",
				"declare function local:f() {"+b.text+"}; declare variable $a := "+a.text+"; 1",
				"declare function local:f() {"+b.text+"}; declare variable $a := 1; declare variable $b := "+a.text+"; "+b.text,
				"declare variable $a := "+a.text+"; "+b.text,
				"declare function local:f() {"+a.text+"}; declare function local:g() {"+b.text+"}; 1",
				"declare function local:g($a) {"+a.text+"}; declare function local:f($a) {"+b.text+"}; 1",
				"declare function local:f() {1}; declare function local:g() {"+a.text+"}; declare function local:h() {"+b.text+"}; "+b.text,
				"declare function local:f() {"+a.text+"}; "+b.text,
				"declare function local:f() {"+a.text+"}; declare variable $a := 1; "+b.text,
			)
		}
	}
}

// declaredWrong are declarations, each wrong by itself and beside others.
var declaredWrong = []struct {
	text string
	want api.Errno
}{
	{"declare function f1() {1}; ", api.ErrFunc},
	{"declare function count($a, $a) {1}; ", api.ErrFunc},
	{"declare function f2($a, $b, $c, $d, $e, $f, $g, $h, $i) {1}; ", api.ErrFunc},
	{"declare function local:f3($a, $b, $c, $d, $e, $f, $g, $h, $i) {1}; ", api.ErrLong},
	{"declare function local:f4($a, $b, $c, $d, $e, $f, $g, $h, $a) {1}; ", api.ErrLong},
	{"declare function local:f5($a, $a) {1}; ", api.ErrRedo},
	{"declare function local:f6() {1}; declare function local:f6() {1}; ", api.ErrRedo},
	{"declare function local:f7($b) {1}; declare function local:f7($a) {1}; ", api.ErrRedo},
}

// Of declarations each function goes ahead of those behind it, functions ahead of Globals, and all of them ahead of what they say.
func TestP122DeclarationsFirst(t *testing.T) {
	twice := "declare variable $g := 1; declare variable $g := 2; "
	for _, a := range declaredWrong {
		hold(t, a.want, a.text+"1", "declare function local:a($a) {$a}; "+a.text+"1", a.text+twice+"1", twice+a.text+"1", "declare variable $g := 1; "+a.text+"declare variable $g := 2; 1")
		for _, b := range declaredWrong {
			if a != b {
				hold(t, a.want, a.text+b.text+"1", a.text+"declare variable $g := 1; "+b.text+"$g", a.text+twice+b.text+"1")
			}
		}
		for _, f := range faults {
			hold(t, a.want, a.text+f.text, "declare variable $g := "+f.text+"; "+a.text+"1", "declare function local:a() {"+f.text+"}; "+a.text+"1", a.text+"declare function local:a() {"+f.text+"}; 1")
			hold(t, api.ErrRedo, twice+f.text, "declare variable $g := "+f.text+"; "+twice+"1", "declare function local:a() {"+f.text+"}; "+twice+"1", twice+"declare variable $h := "+f.text+"; 1", "declare variable $g := 1; declare variable $g := "+f.text+"; 1")
			hold(t, api.ErrLong, many(65, "declare function local:f#() {"+f.text+"}; ")+f.text, many(64, "declare function local:a#() {1}; ")+a.text+f.text)
		}
	}
	// The one of a name goes ahead of what is wrong with the next function, and behind what is wrong with the one ahead.
	same := function("local:s", "")
	hold(t, api.ErrRedo, same+same+function("f", "")+"1", same+function("local:p", "$a, $a")+function("f", "")+same+"1", same+same+function("local:p", params(9))+"1")
	hold(t, api.ErrFunc, same+function("f", "")+same+"1", function("f", "")+same+same+"1")
	hold(t, api.ErrLong, same+function("local:p", params(9))+same+"1", function("local:p", params(9))+function("local:p", params(9))+"1")
}
