package opt_test

import (
	"strings"
	"testing"

	"espalier/api"
)

// A Let of a Lit becomes what it returns, with the Lit for each use of its variable.
func TestP173Lets(t *testing.T) {
	for s, want := range map[string]string{
		// No use, one, several.
		"let $n := 1 return 2": "2", "let $n := 1 return ()": "()", "let $n := 1 return $v": "$v", "let $n := 1 return $n": "1", "let $n := 'a' return ($n, $n, $v, $n)": "('a', 'a', $v, 'a')", "let $n := 2.5 return $v + $n": "$v + 2.5",
		"let $n := 1 return <a b='{$n}'>{$n}{<c>{$n}</c>}</a>": "<a b='{1}'>{1}{<c>{1}</c>}</a>", "let $n := 1 return a[$n]/b[. eq $n]/$n": "a[1]/b[. eq 1]/1", "let $n := 'a' return element {$n} {}": "element {'a'} {}", "let $n := 1 return -$v[$n]": "-$v[1]",
		"let $n := 1 return local:g($n)": "local:g(1)", "let $n := 1 return if ($v) then $n else ($n, $n)": "if ($v) then 1 else (1, 1)", "let $n := 1 return ($n to 5, $n = 1, $n is $v, $n and $v, $n instance of xs:integer, $n cast as xs:string)": "(1 to 5, 1 = 1, 1 is $v, 1 and $v, 1 instance of xs:integer, 1 cast as xs:string)",
		// Uses that tell a value.
		"let $n := 2 return $n * $n + 1": "5", "let $n := 3 return if ($n gt 2) then 'a' else 'b'": "'a'", "let $n := 0 return 1 div $n": "1 div 0", "let $n := 'a' return $n + 1": "'a' + 1", "let $n := 1 return $v + ($n + $n)": "$v + 2",
		// One within another.
		"let $n := 1 let $m := 2 return $n + $m": "3", "let $n := 1 let $m := $n return ($n, $m)": "(1, 1)", "let $n := 1 let $m := $n + 1 let $o := $m * 2 return ($n, $m, $o)": "(1, 2, 4)", "let $n := 1 let $m := $v return ($n, $m)": "let $m := $v return (1, $m)", "let $m := $v let $n := 1 return ($n, $m)": "let $m := $v return (1, $m)",
		"let $n := (let $m := 1 return $m + 1) return $n": "2", "let $n := (let $m := 1 return $v) return $n": "let $n := $v return $n", "let $n := (let $n := 1 return $n + 1) return $n + 1": "3", "let $n := (let $n := (let $n := 2 return $n * $n) return $n * $n) return $n * $n": "256",
		"(let $n := 1 return $n) + (let $n := 2 return $n)": "3", "let $n := 1 return (let $n := $n + 1 return $n) + $n": "3", "let $n := 1 return (let $n := $v return $n, $n)": "(let $n := $v return $n, 1)", "let $n := 1 return let $n := $n + $v return $n": "let $n := 1 + $v return $n",
		// Values that become Lits.
		"let $n := 1 + 1 return $n": "2", "let $n := if (1 eq 1) then 2 else 3 return $n": "2", "let $n := if (1 eq 1) then 2 else $v return $n + $v": "2 + $v", "let $n := 1 eq 2 return if ($n) then 1 else 2": "2", "let $n := -5 return $n": "-5", "let $n := 7 idiv 2 return a[$n]": "a[3]",
		// Values that don't.
		"let $n := $v return $n": "let $n := $v return $n", "let $n := () return $n": "let $n := () return $n", "let $n := (1, 2) return $n": "let $n := (1, 2) return $n", "let $n := 1 div 0 return 2": "let $n := 1 div 0 return 2", "let $n := error() return 1": "let $n := error() return 1", "let $n := a return $n": "let $n := a return $n", "let $n := <a/> return ($n, $n)": "let $n := <a/> return ($n, $n)",
		"let $n := if ($v) then 1 else 1 return $n": "let $n := if ($v) then 1 else 1 return $n", "let $n := if (1 eq 1) then $v else 1 return $n": "let $n := if (1 ge 1) then $v else 1 return $n", "let $n := local:f() return $n": "let $n := local:f() return $n", "let $n := 1 + 'a' return $n": "let $n := 1 + 'a' return $n",
		// Names that are like it.
		"let $n := 1 return ($v, $x, $u)": "($v, $x, $u)", "let $v := 1 return ($v, $x)": "(1, $x)", "($v, let $v := 1 return $v, $v)": "($v, 1, $v)",
	} {
		got, wanted := simpler(t, api.Module{}, coreOf(t, s)), simpler(t, api.Module{}, coreOf(t, want))
		if !same(got, wanted) {
			t.Errorf("of %s comes %s, not %s", s, show(got), want)
		}
	}
}

// binders are texts that bind $n in some of their places, which are #0, #1 and so on as they are read: inside tells in which.
var binders = []struct {
	text   string
	inside []bool
}{
	{"(#0, (for $n in #1 return #2), #3)", []bool{false, false, true, false}},
	{"(#0, (for $m in #1 return #2), #3)", []bool{false, false, false, false}},
	{"(#0, (for $n at $m in #1 return #2), #3)", []bool{false, false, true, false}},
	{"(#0, (for $m at $n in #1 return #2), #3)", []bool{false, false, true, false}},
	{"(#0, (for $m at $p in #1 return #2), #3)", []bool{false, false, false, false}},
	{"(#0, (let $n := ($v, #1) return #2), #3)", []bool{false, false, true, false}},
	{"(#0, (let $m := ($v, #1) return #2), #3)", []bool{false, false, false, false}},
	{"(some $n in #0 satisfies #1, #2)", []bool{false, true, false}},
	{"(some $m in #0 satisfies #1, #2)", []bool{false, false, false}},
	{"(every $n in #0 satisfies #1, #2)", []bool{false, true, false}},
	{"(every $m in #0 satisfies #1, #2)", []bool{false, false, false}},
	{"some $n in #0, $m in #1 satisfies #2", []bool{false, true, true}},
	{"every $m in #0, $n in #1 satisfies #2", []bool{false, false, true}},
	{"((for $n in #0 where #1 order by #2 descending return #3), #4)", []bool{false, true, true, true, false}},
	{"((for $m at $n in #0 where #1 order by #2 return #3), #4)", []bool{false, true, true, true, false}},
	{"((for $n at $m in #0 order by #1 return #2), #3)", []bool{false, true, true, false}},
	{"((for $m in #0 where #1 order by #2 return #3), #4)", []bool{false, false, false, false, false}},
	{"(typeswitch (#0) case $n as node() return #1 case $m as item() return #2 default $n return #3, #4)", []bool{false, true, false, true, false}},
	{"(typeswitch (#0) case node() return #1 case $n as item() return #2 default return #3, #4)", []bool{false, false, true, false, false}},
	{"(typeswitch (#0) case $m as node() return #1 default $m return #2, #3)", []bool{false, false, false, false}},
	{"for $n in #0, $m in #1 where #2 return (#3, let $n := ($v, #4) return #5)", []bool{false, true, true, true, true, true}},
	{"for $m in #0, $n in #1 where #2 return #3", []bool{false, false, true, true}},
	{"(for $m in (for $n in #0 return #1) return #2)[#3]/#4", []bool{false, true, false, false, false}},
	{"<a b='{#0}{for $n in #1 return #2}'>{#3}<c>{#4}</c></a>", []bool{false, false, true, false, false}},
	{"concat((for $n in #0 return #1), #2, (some $n in #3 satisfies #4), #5)", []bool{false, true, false, false, true, false}},
	{"if (for $n in #0 return #1) then #2 else (every $n in #3 satisfies #4)", []bool{false, true, false, false, true}},
	{"for $n in #0 return for $n in #1 return #2", []bool{false, true, true}},
	{"for $m in #0 return let $m := ($v, #1) return (#2, for $n in #3 return (#4, for $m at $n in #5 return #6), #7)", []bool{false, false, false, false, true, true, true, false}},
}

// filled is a text, in place i what puts says of it.
func filled(s string, places int, puts func(i int) string) string {
	for i := range places {
		s = strings.Replace(s, "#"+string(rune('0'+i)), puts(i), 1)
	}
	return s
}

// Uses that are bound again stay; the others don't, whatever is bound around them.
func TestP173BoundAgain(t *testing.T) {
	for _, b := range binders {
		for _, f := range []struct{ use, put string }{{"$n", "7"}, {"($v, $n, $n)", "($v, 7, 7)"}, {"(for $k in $n return $n)", "(for $k in 7 return 7)"}, {"($v + ($n + 1))", "($v + 8)"}} {
			all := filled(b.text, len(b.inside), func(int) string { return f.use })
			want := filled(b.text, len(b.inside), func(i int) string {
				if b.inside[i] {
					return f.use
				}
				return f.put
			})
			for _, front := range []string{"let $n := 7 return ", "let $n := 7 let $z := $n return ", "let $n := $v let $n := 7 return ", "let $n := 1 let $n := 8 - $n return ", "let $z := 3 let $n := $z + 4 return "} {
				after := ""
				if strings.Contains(front, "$v") {
					after = "let $n := $v return "
				}
				holdText(t, "declare variable $n := 1; "+front+all, "declare variable $n := 1; "+after+want)
			}
			// Where it stands for nothing that is known, nothing is put for it.
			got := simpler(t, api.Module{}, coreOf(t, "declare variable $n := 1; for $n in $v return "+all))
			holdNoLit(t, got, whole(7))
		}
	}
}

// holdNoLit holds a tree to have no Lit of a value.
func holdNoLit(t *testing.T, e api.Expr, a api.Atom) {
	t.Helper()
	if e.Op == api.Lit && e.Val == a {
		t.Errorf("%s has the value %+v", show(e), a)
	}
	for _, kid := range e.Kids {
		holdNoLit(t, kid, a)
	}
}

// A Let of each value, with as many uses.
func TestP173LetsOfValues(t *testing.T) {
	for _, a := range values {
		for uses := range 5 {
			e, want := expr(api.Seq), expr(api.Seq)
			for range uses {
				e.Kids, want.Kids = append(e.Kids, variable("n")), append(want.Kids, lit(a))
			}
			hold(t, named(api.Let, "n", lit(a), e), want)
			hold(t, named(api.Let, "n", lit(a), named(api.Let, "m", variable("n"), expr(api.Seq, e, variable("m")))), expr(api.Seq, want, lit(a)))
			hold(t, named(api.Let, "m", lit(a), e), e)
		}
		hold(t, named(api.Let, "n", lit(a), variable("n")), lit(a))
		hold(t, named(api.Let, "n", named(api.Let, "m", lit(a), variable("m")), expr(api.Path, variable("n"), step())), expr(api.Path, lit(a), step()))
	}
}

// What is free stays free.
func TestP174Free(t *testing.T) {
	for _, e := range []api.Expr{
		variable("x"), expr(api.Add, variable("x"), variable("y")), named(api.Let, "x", variable("x"), variable("x")), named(api.Let, "n", number(1), expr(api.Seq, variable("x"), variable("n"), variable("y"))),
		named(api.For, "x", variable("x"), expr(api.Seq, variable("x"), variable("y"))), expr(api.If, yes(), number(1), variable("x")), expr(api.If, yes(), variable("x"), variable("y")),
		// The use within is bound, the one behind isn't.
		expr(api.Seq, named(api.Let, "n", number(1), variable("n")), variable("n")), expr(api.Seq, named(api.For, "n", variable("n"), variable("n")), variable("n")), named(api.Let, "n", variable("n"), named(api.Let, "m", number(1), variable("n"))),
	} {
		simpler(t, api.Module{}, e)
	}
	hold(t, expr(api.Seq, variable("n"), named(api.Let, "n", number(1), variable("n")), variable("n")), expr(api.Seq, variable("n"), number(1), variable("n")))
	hold(t, named(api.Let, "n", number(1), expr(api.Seq, named(api.For, "n", variable("n"), variable("n")), variable("n"))), expr(api.Seq, named(api.For, "n", number(1), variable("n")), number(1)))
}
