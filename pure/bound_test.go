package pure_test

import (
	"slices"
	"strings"
	"testing"

	"espalier/api"
	"espalier/parse"
	"espalier/pure"
	"espalier/scope"
)

// binders are texts that bind $v in some of their places, which are #0, #1 and so on as they are read: inside tells in which.
var binders = []struct {
	text   string
	inside []bool
}{
	{"#0, (for $v in #1 return #2), #3", []bool{false, false, true, false}},
	{"#0 + (for $v at $x in #1 return #2) + #3", []bool{false, false, true, false}},
	{"#0 + (for $x at $v in #1 return #2) + #3", []bool{false, false, true, false}},
	{"#0, (let $v := #1 return #2), #3", []bool{false, false, true, false}},
	{"count((let $v := #0 return #1)), #2", []bool{false, true, false}},
	{"(#0, (some $v in #1 satisfies #2)), #3", []bool{false, false, true, false}},
	{"#0, (every $v in #1 satisfies #2), #3", []bool{false, false, true, false}},
	{"some $v in #0, $x in #1 satisfies #2", []bool{false, true, true}},
	{"some $x in #0, $v in #1 satisfies #2", []bool{false, false, true}},
	{"every $x in #0, $v in #1, $y in #2 satisfies #3", []bool{false, false, true, true}},
	{"(every $v in #0, $x in #1 satisfies #2) or #3", []bool{false, true, true, false}},
	{"#0, (typeswitch (#1) case $v as item() return #2 default return #3), #4", []bool{false, false, true, false, false}},
	{"#0, (typeswitch (#1) case $v as item() return #2 case $x as node() return #3 default $y return #4), #5", []bool{false, false, true, false, false, false}},
	{"#0, (typeswitch (#1) case $x as item() return #2 case $v as node() return #3 default $y return #4), #5", []bool{false, false, false, true, false, false}},
	{"#0, (typeswitch (#1) case item() return #2 case $x as node() return #3 default $v return #4), #5", []bool{false, false, false, false, true, false}},
	{"#0, (typeswitch (#1) case $v as item() return #2 case $v as node() return #3 default $v return #4), #5", []bool{false, false, true, true, true, false}},
	{"for $v in #0, $x in #1, $y in #2 where #3 return #4", []bool{false, true, true, true, true}},
	{"for $x in #0, $v in #1, $y in #2 where #3 return #4", []bool{false, false, true, true, true}},
	{"(for $x in #0, $y in #1, $v in #2 where #3 return #4), #5", []bool{false, false, false, true, true, false}},
	{"for $x in #0, $y at $v in #1 for $z in #2 let $w := #3 return #4", []bool{false, false, true, true, true}},
	{"let $v := #0, $x := #1 for $y in #2 where #3 return #4", []bool{false, true, true, true, true}},
	{"(let $x := #0, $v := #1 let $y := #2 where #3 return #4) + #5", []bool{false, false, true, true, true, false}},
	{"for $v in #0 where #1 order by #2 descending return #3", []bool{false, true, true, true}},
	{"(for $v at $x in #0 order by #1 return #2), #3", []bool{false, true, true, false}},
	{"(for $x at $v in #0 where #1 order by #2 return #3), #4", []bool{false, true, true, true, false}},
	{"for $x in #0 return let $v := #1 return some $y in #2 satisfies #3", []bool{false, false, true, true}},
	{"(for $x in (let $v := #0 return #1) return #2), #3", []bool{false, true, false, false}},
	{"(let $x := (for $v in #0 return #1), $y := #2 return #3), #4", []bool{false, true, false, false, false}},
	{"some $x in (some $v in #0 satisfies #1) satisfies #2", []bool{false, true, false}},
	{"for $x in #0 where (for $v in #1 return #2) order by (every $v in #3 satisfies #4) return #5", []bool{false, false, true, false, true, false}},
	{"typeswitch ((let $v := #0 return #1)) case item() return #2 default return #3", []bool{false, true, false, false}},
	{"let $v := #0 return (let $v := #1 return #2, #3)", []bool{false, true, true, true}},
	{"for $v in #0, $v in #1 let $v := #2 return (#3, (some $v in #4 satisfies #5)), #6", []bool{false, true, true, true, true, true, false}},
	{"let $v := #0 return (typeswitch (#1) case $v as item() return #2 default return #3), #4", []bool{false, true, true, true, false}},
	{"let $x := #0, $v := #1, $v := #2 where #3 return (#4), #5", []bool{false, false, true, true, true, false}},
	{"for $v at $x in #0, $x at $v in #1 return #2", []bool{false, true, true}},
	{"(let $v := #0 return #1)[#2]/(let $v := #3 return #4)[#5]", []bool{false, true, false, false, true, false}},
	{"if ((let $v := #0 return #1)) then #2 else #3", []bool{false, true, false, false}},
	{"if (#0) then (let $v := #1 return #2) else #3", []bool{false, false, true, false}},
	{"<a b='{#0}{let $v := #1 return #2}' c='{#3}'>{#4}<d>{for $v in #5 return #6}</d>{#7}</a>", []bool{false, false, true, false, false, false, true, false}},
	{"element {let $v := #0 return #1} {#2, (some $v in #3 satisfies #4)}, text {#5}", []bool{false, true, false, false, true, false}},
	{"concat((let $v := #0 return #1), #2, (let $v := #3 return #4), #5)", []bool{false, true, false, false, true, false}},
	{"-(let $v := #0 return #1) * #2 instance of item()", []bool{false, true, false}},
	{"(let $v := #0 return #1 = #2 to #3 cast as xs:string) = #4", []bool{false, true, true, true, false}},
	{"let $vv := #0, $w := #1 for $V in #2 return #3", []bool{false, false, false, false}},
	{"local:h(#0, (let $v := #1 return local:h(#2, #3))), #4", []bool{false, false, true, true, false}},
}

// fillings are texts for a place, how many uses of $v they have where it isn't bound, and what they become when 5 is put for it.
var fillings = []struct {
	text string
	uses int
	put  string
}{
	{"$v", 1, "5"},
	{"$u", 0, "$u"},
	{"7", 0, "7"},
	{"($v, $u, $v)", 2, "(5, $u, 5)"},
	{"(-$v + count(($v, ($v))))", 3, "(-5 + count((5, (5))))"},
	{"(let $n := $v return ($n, $v))", 2, "(let $n := 5 return ($n, 5))"},
	{"(let $v := $v return ($v, $v))", 1, "(let $v := 5 return ($v, $v))"},
	{"(for $v in $v, $v in $v return $v)", 1, "(for $v in 5, $v in $v return $v)"},
	{"(for $n at $v in $v return $v)[$v]", 2, "(for $n at $v in 5 return $v)[5]"},
	{"(every $v in $v satisfies $v)", 1, "(every $v in 5 satisfies $v)"},
	{"(typeswitch ($v) case $v as node() return $v case node() return $v default $v return $v)", 2, "(typeswitch (5) case $v as node() return $v case node() return 5 default $v return $v)"},
	{"(1, <e f='{$v}'>{$v}</e>)", 2, "(1, <e f='{5}'>{5}</e>)"},
	{"(if ($v) then $v else $v/b[$v])", 4, "(if (5) then 5 else 5/b[5])"},
	{"local:h($v, $v)", 2, "local:h(5, 5)"},
}

// holdUses holds Uses, and what is free, to a number.
func holdUses(t *testing.T, what, name string, e api.Expr, want int) {
	t.Helper()
	if got := usesOf(t, name, e); got != want {
		t.Errorf("%s: %d uses of $%s, not %d", what, got, name, want)
	}
	if got := usesOf(t, name, e, number(1), e, variable(name)); got != 2*want+1 {
		t.Errorf("%s: twice %d uses of $%s come to %d", what, want, name, got)
	}
	if isFree := slices.Contains(scope.Free(e), name); isFree != (want > 0) {
		t.Errorf("%s: $%s is free: %v", what, name, isFree)
	}
}

// filled is a text, in place i what puts says of it.
func filled(s string, places int, puts func(i int) string) string {
	for i := range places {
		s = strings.Replace(s, "#"+string(rune('0'+i)), puts(i), 1)
	}
	return s
}

// only is what stands in one place, while 1 stands in the others.
func only(place int, s string) func(i int) string {
	return func(i int) string {
		if i == place {
			return s
		}
		return "1"
	}
}

// fives is a core in which a Lit stands for each 5.
func fives(e, lit api.Expr) api.Expr {
	if same(e, number(5)) {
		return apart(lit)
	}
	var kids []api.Expr
	for _, kid := range e.Kids {
		kids = append(kids, fives(kid, lit))
	}
	e.Kids = kids
	return e
}

// Each binder, with each filling in each of its places: Uses counts those that are not bound.
func TestP161UsesOfBound(t *testing.T) {
	for _, b := range binders {
		for i, in := range b.inside {
			for _, f := range fillings {
				s := filled(b.text, len(b.inside), only(i, f.text))
				want := f.uses
				if in {
					want = 0
				}
				holdUses(t, s, "v", coreOf(t, s), want)
			}
		}
	}
}

func TestP162PutOfBound(t *testing.T) {
	t.Parallel()
	for _, b := range binders {
		for i, in := range b.inside {
			for _, f := range fillings {
				e := coreOf(t, filled(b.text, len(b.inside), only(i, f.text)))
				put := f.put
				if in {
					put = f.text
				}
				want := coreOf(t, filled(b.text, len(b.inside), only(i, put)))
				holdPut(t, e, "v", number(5), want)
				if in {
					continue
				}
				for _, lit := range literals {
					holdPut(t, e, "v", lit, fives(want, lit))
				}
			}
		}
	}
}

// The same filling in all places, so that a name is free and bound at once.
func TestP162PutOfBoth(t *testing.T) {
	t.Parallel()
	for _, b := range binders {
		for _, f := range fillings {
			count := 0
			s := filled(b.text, len(b.inside), func(i int) string { return f.text })
			put := filled(b.text, len(b.inside), func(i int) string {
				if b.inside[i] {
					return f.text
				}
				count += f.uses
				return f.put
			})
			e, want := coreOf(t, s), coreOf(t, put)
			holdUses(t, s, "v", e, count)
			for _, lit := range literals {
				holdPut(t, e, "v", lit, fives(want, lit))
			}
		}
	}
}

// Other names than those that are asked for are left alone, however near they are.
func TestP162OtherNames(t *testing.T) {
	for _, b := range binders {
		s := filled(b.text, len(b.inside), func(int) string { return "($v, $u, $x, $y, $z)" })
		e := coreOf(t, s)
		for _, name := range []string{"", "V", "vv", "$v", "n", "fn:v", "a", "local:h", "e", "\xff"} {
			holdUses(t, s, name, e, 0)
			holdPut(t, e, name, number(5), e)
		}
	}
}

func TestP161Examples(t *testing.T) {
	e := coreOf(t, "($x, let $x := 1 return $x)")
	holdUses(t, "the example", "x", e, 1)
	holdPut(t, e, "x", number(5), coreOf(t, "(5, let $x := 1 return $x)"))
	if got := parse.Expr(pure.Put(e, "x", number(5)).Kids[0]); got != "5" {
		t.Errorf("what was put is %s", got)
	}
}
