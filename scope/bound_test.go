package scope_test

import (
	"slices"
	"strings"
	"testing"

	"espalier/api"
)

// binders are texts that bind $v in some of their places, which are #0, #1 and so on as they are read: inside tells in which.
var binders = []struct {
	text   string
	inside []bool
}{
	{"#0, (for $v in #1 return #2), #3", []bool{false, false, true, false}},
	{"#0 + (for $v at $x in #1 return #2) + #3", []bool{false, false, true, false}},
	{"#0 + (for $x at $v in #1 return #2) + #3", []bool{false, false, true, false}},
	{"#0, (let $v := #1 return #2), #3", []bool{false, false, true, false}},
	{"count((let $v := #0 return #1)), #2", []bool{false, true, false}},
	{"(#0, (some $v in #1 satisfies #2)), #3", []bool{false, false, true, false}},
	{"#0, (every $v in #1 satisfies #2), #3", []bool{false, false, true, false}},
	{"some $v in #0, $x in #1 satisfies #2", []bool{false, true, true}},
	{"some $x in #0, $v in #1 satisfies #2", []bool{false, false, true}},
	{"every $x in #0, $v in #1, $y in #2 satisfies #3", []bool{false, false, true, true}},
	{"(every $v in #0, $x in #1 satisfies #2) or #3", []bool{false, true, true, false}},
	{"#0, (typeswitch (#1) case $v as item() return #2 default return #3), #4", []bool{false, false, true, false, false}},
	{"#0, (typeswitch (#1) case $v as item() return #2 case $x as node() return #3 default $y return #4), #5", []bool{false, false, true, false, false, false}},
	{"#0, (typeswitch (#1) case $x as item() return #2 case $v as node() return #3 default $y return #4), #5", []bool{false, false, false, true, false, false}},
	{"#0, (typeswitch (#1) case item() return #2 case $x as node() return #3 default $v return #4), #5", []bool{false, false, false, false, true, false}},
	{"#0, (typeswitch (#1) case $v as item() return #2 case $v as node() return #3 default $v return #4), #5", []bool{false, false, true, true, true, false}},
	{"for $v in #0, $x in #1, $y in #2 where #3 return #4", []bool{false, true, true, true, true}},
	{"for $x in #0, $v in #1, $y in #2 where #3 return #4", []bool{false, false, true, true, true}},
	{"(for $x in #0, $y in #1, $v in #2 where #3 return #4), #5", []bool{false, false, false, true, true, false}},
	{"for $x in #0, $y at $v in #1 for $z in #2 let $w := #3 return #4", []bool{false, false, true, true, true}},
	{"let $v := #0, $x := #1 for $y in #2 where #3 return #4", []bool{false, true, true, true, true}},
	{"(let $x := #0, $v := #1 let $y := #2 where #3 return #4) + #5", []bool{false, false, true, true, true, false}},
	{"for $v in #0 where #1 order by #2 descending return #3", []bool{false, true, true, true}},
	{"(for $v at $x in #0 order by #1 return #2), #3", []bool{false, true, true, false}},
	{"(for $x at $v in #0 where #1 order by #2 return #3), #4", []bool{false, true, true, true, false}},
	{"for $x in #0 return let $v := #1 return some $y in #2 satisfies #3", []bool{false, false, true, true}},
	{"(for $x in (let $v := #0 return #1) return #2), #3", []bool{false, true, false, false}},
	{"(let $x := (for $v in #0 return #1), $y := #2 return #3), #4", []bool{false, true, false, false, false}},
	{"some $x in (some $v in #0 satisfies #1) satisfies #2", []bool{false, true, false}},
	{"for $x in #0 where (for $v in #1 return #2) order by (every $v in #3 satisfies #4) return #5", []bool{false, false, true, false, true, false}},
	{"typeswitch ((let $v := #0 return #1)) case item() return #2 default return #3", []bool{false, true, false, false}},
	{"let $v := #0 return (let $v := #1 return #2, #3)", []bool{false, true, true, true}},
	{"for $v in #0, $v in #1 let $v := #2 return (#3, (some $v in #4 satisfies #5)), #6", []bool{false, true, true, true, true, true, false}},
	{"let $v := #0 return (typeswitch (#1) case $v as item() return #2 default return #3), #4", []bool{false, true, true, true, false}},
	{"let $x := #0, $v := #1, $v := #2 where #3 return (#4), #5", []bool{false, false, true, true, true, false}},
	{"for $v at $x in #0, $x at $v in #1 return #2", []bool{false, true, true}},
	{"(let $v := #0 return #1)[#2]/(let $v := #3 return #4)[#5]", []bool{false, true, false, false, true, false}},
	{"if ((let $v := #0 return #1)) then #2 else #3", []bool{false, true, false, false}},
	{"if (#0) then (let $v := #1 return #2) else #3", []bool{false, false, true, false}},
	{"<a b='{#0}{let $v := #1 return #2}' c='{#3}'>{#4}<d>{for $v in #5 return #6}</d>{#7}</a>", []bool{false, false, true, false, false, false, true, false}},
	{"element {let $v := #0 return #1} {#2, (some $v in #3 satisfies #4)}, text {#5}", []bool{false, true, false, false, true, false}},
	{"concat((let $v := #0 return #1), #2, (let $v := #3 return #4), #5)", []bool{false, true, false, false, true, false}},
	{"-(let $v := #0 return #1) * #2 instance of item()", []bool{false, true, false}},
	{"(let $v := #0 return #1 = #2 to #3 cast as xs:string) = #4", []bool{false, true, true, true, false}},
	{"let $vv := #0, $w := #1 for $V in #2 return #3", []bool{false, false, false, false}},
	{"local:v(#0, (let $v := #1 return local:v(#2, #3))), #4", []bool{false, false, true, true, false}},
}

// filled is a text, in place i what puts says of it.
func filled(s string, places int, puts func(i int) string) string {
	for i := range places {
		s = strings.Replace(s, "#"+string(rune('0'+i)), puts(i), 1)
	}
	return s
}

// only is what stands in one place, while 1 stands in the others.
func only(place int, s string) func(i int) string {
	return func(i int) string {
		if i == place {
			return s
		}
		return "1"
	}
}

// atFront declares what some texts use beside what they bind.
const atFront = "declare function local:v($a, $b) {1}; "

func TestP122Scopes(t *testing.T) {
	for _, b := range binders {
		inside := ""
		for i, in := range b.inside {
			want := api.ErrName
			if in {
				want = api.OK
			}
			s := filled(b.text, len(b.inside), only(i, "$v"))
			hold(t, want, atFront+s, atFront+filled(b.text, len(b.inside), only(i, "(1, <e>{$v}</e>)")), atFront+filled(b.text, len(b.inside), only(i, "(let $n := $v return $n)")))
			hold(t, api.ErrName, atFront+filled(b.text, len(b.inside), only(i, "$u")))
			// What hides it is what is found, and what is hidden by none is found all the same.
			hold(t, api.OK, atFront+"declare variable $v := 1; "+s, atFront+filled(b.text, len(b.inside), only(i, "(let $v := 1 return $v)")), "declare variable $g := 1; declare function local:v($u, $v) {"+s+"}; $g")
			hold(t, want, "declare variable $v := 1; declare function local:v($a, $b) {"+s+"}; $v", "declare function local:v($v, $b) {1}; "+s, atFront+"declare variable $g := "+"("+s+")"+"; 1")
			if in {
				inside += string(rune('0' + i))
			}
		}
		everywhere := func(i int) string {
			if strings.Contains(inside, string(rune('0'+i))) {
				return "$v"
			}
			return "1"
		}
		hold(t, api.OK, atFront+filled(b.text, len(b.inside), everywhere))
	}
}

func TestP123Scopes(t *testing.T) {
	for _, b := range binders {
		for i, in := range b.inside {
			want := "v"
			if in {
				want = ""
			}
			holdFree(t, filled(b.text, len(b.inside), only(i, "$v")), want)
			holdFree(t, filled(b.text, len(b.inside), only(i, "($u, $v, $u)")), strings.TrimSpace("u "+want))
		}
		// In all places: a variable of its own, beside $v.
		var want []string
		for i, in := range b.inside {
			want = append(want, "f"+string(rune('0'+i)))
			if !in && !slices.Contains(want, "v") {
				want = append(want, "v")
			}
		}
		holdFree(t, filled(b.text, len(b.inside), func(i int) string { return "($f" + string(rune('0'+i)) + ", $v)" }), strings.Join(want, " "))
	}
}
