package scope_test

import (
	"slices"
	"strings"
	"testing"

	"espalier/api"
	"espalier/scope"
)

// fill is a text of as many bytes: one unit after the other between front and end, and blanks behind.
func fill(size int, front, unit, end string) string {
	s := front + strings.Repeat(unit, (size-len(front)-len(end))/len(unit)) + end
	return s + strings.Repeat(" ", size-len(s))
}

// longs are queries of what stands side by side and of what lies thousands deep; # is where a name may be asked for that nothing binds.
var longs = [][3]string{
	{"", "1,", "#"}, {"", "#,", "#"}, {"#", "+1", ""}, {"#", "+#", ""}, {"", "- ", "#"}, {"#", "[1]", ""}, {"1", "[#]", ""}, {"(#)", "/(1)", ""}, {"1", "/(#)", ""}, {"1", " or 1", " or #"}, {"count((", "1,", "#))"}, {"#", ",count(1)", ""},
	{"some $x in #", ",$x in $x", " satisfies $x"}, {"every $x in 1", ",$x in $x", " satisfies ($x,#)"}, {"some $x in 1", ",$y in $x", " satisfies ($y,$x,#)"},
	{"for $x in #", ",$x in $x", " return $x"}, {"for $x in 1", ",$x at $y in $x", " return($x,$y,#)"}, {"let $x:=#", ",$y:=$x", " return($y,$x)"}, {"let $x:=1", ",$x:=$x", " return($x,#)"}, {"let $x:=1", " for $x at $y in $x let $y:=$y", " where #return $y"},
	{"typeswitch(#)", "case $x as item()return $x ", "default return 1"}, {"typeswitch(1)", "case $x as item()return $x ", "default $x return($x,#)"},
	{"<a b='{#}'>", "{1}", "</a>"}, {"<a>", "<b/>", "{#}</a>"}, {"<a b='", "{1}", "{#}'/>"},
	{"", strings.Repeat("(", 60) + "#" + strings.Repeat(")", 60) + ",", "1"}, {"", strings.Repeat("let $x:=", 60) + "1" + strings.Repeat(" return $x", 60) + ",", "#"}, {"", strings.Repeat("for $x in 1 return ", 60) + "$x,", "#"},
}

// longer is a query as long as it may be, with this where a name may be asked for.
func longer(row [3]string, s string) string {
	r := strings.NewReplacer("#", s)
	return fill(api.MaxQuery, r.Replace(row[0]), r.Replace(row[1]), r.Replace(row[2]))
}

func TestP122Long(t *testing.T) {
	for _, row := range longs {
		hold(t, api.OK, longer(row, "(1)"))
		hold(t, api.ErrName, longer(row, "($z)"))
		hold(t, api.ErrFunc, longer(row, "f()"))
	}
	for _, row := range [][3]string{{"declare variable $a:=#;", "1,", "1"}, {"declare variable $a:=1;declare variable $b:=#;", "$a,", "$b"}, {"declare function local:f($f){", "$f,", "#};1"}, {"declare function local:f($f){#", ",local:f($f)", "};1"}} {
		hold(t, api.OK, longer(row, "(1)"))
		hold(t, api.ErrName, longer(row, "($z)"))
	}
}

// Names are as many as a query has room for.
func TestP122ManyNames(t *testing.T) {
	globals := many(1500, "declare variable $g#:=1;")
	hold(t, api.OK, globals+many(1500, "$g#,")+"1", globals+many(1500, "$g0,")+"$g1499")
	hold(t, api.ErrName, globals+many(1500, "$g#,")+"$g1500")
	hold(t, api.ErrRedo, globals+"declare variable $g0:=1;1", globals+"declare variable $g1499:=1;1")
	lets := "let $g0:=1" + strings.TrimPrefix(many(4000, ",$g#:=$g0"), ",$g0:=$g0")
	hold(t, api.OK, lets+" return("+many(2000, "$g#,")+"$g3999)", lets+" return "+strings.Repeat("(", 60)+"$g0"+strings.Repeat(")", 60))
	hold(t, api.ErrName, lets+" return $g4000", "("+lets+" return 1),$g0", "("+lets+" return 1),$g3999")
	funcs := many(64, "declare function local:f#($a){1};")
	hold(t, api.OK, funcs+strings.Repeat("local:f63(", 50)+"1"+strings.Repeat(")", 50)+many(64, ",local:f#(local:f0(1))")+strings.Repeat(",local:f63(1)", 4000))
	hold(t, api.ErrFunc, funcs+strings.Repeat("local:f63(1),", 4000)+"local:f64(1)")
}

func TestP123Long(t *testing.T) {
	for _, row := range longs {
		holdFree(t, longer(row, "(1)"), "")
		holdFree(t, longer(row, "($z)"), "z")
	}
}

func TestP123ManyNames(t *testing.T) {
	all := many(9000, "x# ")
	holdFree(t, "("+many(9000, "$x#,")+"1)", all)
	holdFree(t, many(4000, "$x#,")+many(4000, "$x#,")+"1", many(4000, "x# "))
	holdFree(t, "let $y:=1"+many(4000, ",$y#:=$x#")+" return($y0,$y3999,$y4000)", many(4000, "x# ")+"y4000")
	holdFree(t, "some "+many(3000, "$y# in $x#,")+"$z in $y0 satisfies($z,$y2999,$y3000)", many(3000, "x# ")+"y3000")
}

// As deep as 2^16 levels, each with a name of its own kind.
func TestP123Deep(t *testing.T) {
	for _, op := range []api.Op{api.Let, api.For, api.Order, api.Some, api.Every, api.Case, api.Neg, api.Flwor} {
		e := expr(api.Seq, variable("x"), variable("y"))
		for range 1 << 16 {
			switch op {
			case api.Case:
				e = named(op, "x", e)
			case api.Neg:
				e = expr(op, e)
			case api.Flwor:
				e = expr(op, named(api.Let, "x", number(1)), e)
			default:
				e = named(op, "x", number(1), e)
			}
		}
		want := []string{"y"}
		if op == api.Neg {
			want = []string{"x", "y"}
		}
		if got := scope.Free(e); !slices.Equal(got, want) {
			t.Errorf("Free of 2^16 levels of %d: %q", op, got)
		}
		if got := scope.Check(api.Module{Body: e}); got != api.ErrName {
			t.Errorf("Check of 2^16 levels of %d: %v", op, got)
		}
	}
}
