package scope_test

import (
	"strings"
	"testing"

	"espalier/api"
	"espalier/scope"
)

func TestP123Examples(t *testing.T) {
	holdFree(t, "for $x in $y return ($x, $z)", "y z")
}

func TestP123None(t *testing.T) {
	for _, s := range []string{"1", "()", "a/b[1]", "f(1, g())", "let $x := 1 return $x", "for $x at $p in 1 return $x + $p", "some $x in 1 satisfies $x", "<a b='{1}'>{2}</a>", "typeswitch (1) case $v as item() return $v default $v return $v", "let $x := 1 return 2", ".", "/", "for $x at $x in 1 return $x", "let $y := 1 order by $y return $y"} {
		holdFree(t, s, "")
	}
	if got := scope.Free(api.Expr{}); len(got) > 0 {
		t.Errorf("Free of the zero Expr: %q", got)
	}
}

func TestP123Order(t *testing.T) {
	for s, want := range map[string]string{
		"$x":                                    "x",
		"$x, $x, $x":                            "x",
		"$c, $a, $b":                            "c a b",
		"$b, $a, $b, $c, $a":                    "b a c",
		"($b + $a) * $b - -$d":                  "b a d",
		"$x, $X, $xx, $é-1.·":                   "x X xx é-1.·",
		"$c[$b]/$a[$d]":                         "c b a d",
		"if ($c) then $b else $a":               "c b a",
		"f($c, g($b), $a)":                      "c b a",
		"$for, $x, $x":                          "for x",
		"<a b='{$c}{$b}' d='{$a}'>{$d}{$c}</a>": "c b a d",
		"element {$c} {$b}, attribute a {$a}, text {$d}, comment {$e}, document {$f}":                                          "c b a d e f",
		"$c instance of item(), $b treat as item(), $a cast as xs:string, $d castable as xs:string":                            "c b a d",
		"$f to $e = $d, $c eq $b, $a is $g, $h union $i, $j and $k or $l":                                                      "f e d c b a g h i j k l",
		"for $x in $d where $c order by $b return $a":                                                                          "d c b a",
		"let $x := $d for $y in $c let $z := $b return $a":                                                                     "d c b a",
		"some $x in $c, $y in $b satisfies $a":                                                                                 "c b a",
		"typeswitch ($d) case item() return $c case $x as node() return $b default return $a":                                  "d c b a",
		"$x, (let $x := 1 return $x), $y":                                                                                      "x y",
		"(let $x := 1 return $x), $y, $x":                                                                                      "y x",
		"let $x := $x return $x":                                                                                               "x",
		"for $x in $x, $x in $x return $x":                                                                                     "x",
		"for $x at $y in ($y, $x) return ($x, $y, $z)":                                                                         "y x z",
		"(some $x in $y satisfies $z), (every $z in $x satisfies $y)":                                                          "y z x",
		"typeswitch ($w) case $v as item() return ($v, $w) case $w as node() return ($v, $w) default $u return ($u, $v, $w)":   "w v",
		"let $a := $b, $b := $a, $c := ($a, $b, $c) return ($a, $b, $c, $d)":                                                   "b c d",
		"for $x in (1, $y) where $x = $z order by ($x, $w, $z) return (let $w := $u return ($w, $u, $v)), $x":                  "y z w u v x",
		"for $x at $x in $x return ($x, $y)":                                                                                   "x y",
		"let $y := $x order by ($y, $z) return ($y, $x)":                                                                       "x z",
		"(let $v := 1 return (let $v := 2 return $v, $v)), $v":                                                                 "v",
		"(let $v := 1 return (let $v := 2 return $w)), (some $w in $v satisfies $w), (every $u in ($w, $u) satisfies ($u, 1))": "w v u",
	} {
		holdFree(t, s, want)
	}
	holdFree(t, strings.Repeat("$x, ", 10000)+"1", "x")
	holdFree(t, many(5000, "$x#, ")+many(2000, "$x#, ")+"1", many(5000, "x# "))
}

// Free asks for no functions, no declarations and nothing else that may be wrong.
func TestP123OfWrong(t *testing.T) {
	holdFree(t, "declare variable $g := $h; declare function f($a) {$b}; $g + $a + g($c)", "g a c")
	holdFree(t, "let $x := $y order by ($x, $z) return count($x, $w)", "y z w")
}

// A For, a Let and an Order with what they return as a Kid.
func TestP123Core(t *testing.T) {
	x, y, p := variable("x"), variable("y"), variable("p")
	at := func(e api.Expr, name string) api.Expr {
		e.At = name
		return e
	}
	all := expr(api.Seq, x, y, p)
	for _, row := range []struct {
		e    api.Expr
		want string
	}{
		{named(api.For, "x", all, all), "x y p"},
		{named(api.For, "x", number(1), all), "y p"},
		{at(named(api.For, "x", number(1), all), "p"), "y"},
		{at(named(api.For, "x", p, all), "p"), "p y"},
		{at(named(api.For, "x", y, x), "p"), "y"},
		{at(named(api.For, "x", x, x), "p"), "x"},
		{at(named(api.For, "x", p, p), "p"), "p"},
		{named(api.Let, "x", all, all), "x y p"},
		{named(api.Let, "x", y, all), "y p"},
		{named(api.Let, "x", number(1), x), ""},
		{named(api.Let, "x", x, number(1)), "x"},
		{named(api.Order, "x", x, number(1), number(1), number(1)), "x"},
		{named(api.Order, "x", number(1), x, number(1), number(1)), ""},
		{named(api.Order, "x", number(1), number(1), x, number(1)), ""},
		{named(api.Order, "x", number(1), number(1), number(1), x), ""},
		{at(named(api.Order, "x", p, number(1), number(1), number(1)), "p"), "p"},
		{at(named(api.Order, "x", number(1), p, number(1), number(1)), "p"), ""},
		{at(named(api.Order, "x", number(1), number(1), p, number(1)), "p"), ""},
		{at(named(api.Order, "x", number(1), number(1), number(1), p), "p"), ""},
		{named(api.Order, "x", number(1), p, y, all), "p y"},
		{named(api.Order, "x", variable("a"), variable("d"), variable("c"), variable("b")), "a d c b"},
		{named(api.For, "x", y, named(api.Let, "y", x, at(named(api.For, "p", all, all), "q"))), "y p"},
		{expr(api.Seq, named(api.For, "x", number(1), x), x, named(api.Let, "y", number(1), y), y, at(named(api.Order, "x", number(1), number(1), number(1), number(1)), "p"), p), "x y p"},
		{named(api.Let, "x", number(1), expr(api.Seq, named(api.Let, "x", number(2), x), x)), ""},
		{named(api.For, "y", number(1), expr(api.If, y, named(api.Some, "x", x, all), expr(api.Seq))), "x p"},
		{named(api.Let, "p", number(1), named(api.Order, "x", p, y, expr(api.Switch, x, named(api.Case, "y", all), named(api.Case, "q", all)), p)), "y"},
	} {
		holdNames(t, row.want, row.e, strings.Fields(row.want))
	}
}
