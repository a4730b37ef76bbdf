package opt_test

import (
	"slices"
	"testing"

	"espalier/api"
)

func TestP173Examples(t *testing.T) {
	holdText(t, "1 + 2 * 3", "7")
	holdText(t, "let $x := 2 return $x + $x", "4")
	// An expression in it means an error, so it might stay, too.
	holdText(t, `if (1 eq 1) then "a" else 1 div 0`, `"a"`)
}

// values are those that stand in Lits, of each of the four kinds.
var values = []api.Atom{
	whole(0), whole(1), whole(-7), whole(2), whole(top), whole(-top), dec(0, 0), dec(1, 0), dec(25, 1), dec(-25, 1), dec(1, 9), dec(top, 9), dec(top, 0),
	text(""), text("a"), text("1"), text("é"), text("true"), truth(true), truth(false),
}

// Each reckoning, and each comparison, of each two values, by itself and within others.
func TestP173Pairs(t *testing.T) {
	t.Parallel()
	for _, op := range slices.Concat(reckoned, compared) {
		folded, kept := 0, 0
		for _, a := range values {
			for _, b := range values {
				e := expr(op, lit(a), lit(b))
				want, within := e, expr(api.If, yes(), e, number(1))
				if v, err := judgedPair(op, a, b); err == api.OK {
					want, within = lit(v), lit(v)
					folded++
				} else {
					kept++
				}
				hold(t, e, want)
				hold(t, expr(api.Seq, e, variable("x"), e), expr(api.Seq, want, variable("x"), want))
				hold(t, expr(api.If, yes(), e, number(1)), within)
			}
		}
		if folded < 50 || kept < 50 {
			t.Errorf("op %d: %d become Lits, %d stay", op, folded, kept)
		}
	}
}

// Texts, and the values that they become.
func TestP173Texts(t *testing.T) {
	for s, want := range map[string]api.Atom{
		"1": whole(1), `"a"`: text("a"), "2.50": dec(25, 1), "1 + 1 + 1": whole(3), "(1 + 2) * (3 - 5)": whole(-6), "10 idiv 3 mod 2": whole(1), "7.5 idiv 2": whole(3), "1 div 3": dec(333333333, 9), "4 div 2": dec(2, 0),
		"2.0 * 2": dec(4, 0), "1 - 0.5 - 0.5": dec(0, 0), "0.000000001 * 0.5": dec(0, 0), "999999999999999999 + 0": whole(top), "0 - 999999999999999999": whole(-top), "7 mod 2.5": dec(2, 0),
		"1 lt 2": truth(true), `"a" lt "b"`: truth(true), `"b" lt "a"`: truth(false), "2 eq 2.0": truth(true), "2 ne 2.0": truth(false), "(1 eq 1) eq (1 eq 2)": truth(false), "(1 eq 2) lt (1 eq 1)": truth(true),
		"if (2 gt 1) then 3 + 4 else 5": whole(7), "if (2 lt 1) then 3 + 4 else 5 - 1": whole(4), "if (1 ne 1) then 1 else if (1 ge 1) then 2 else 3": whole(2), "if ((1 eq 1) eq (2 eq 2)) then 2.5 else 0": dec(25, 1),
		"(if (1 eq 1) then 2 else 3) * (if (1 eq 2) then 2 else 5)": whole(10), "(if (1 eq 1) then 1 eq 2 else 3) eq (1 le 0)": truth(true), `if ("a" le "b") then "c" else "d"`: text("c"), "if (1 eq 1.0) then if (1 eq 2) then 1 else 1.5 else 3": dec(15, 1),
		// Beyond what is promised: what the ways of reading make of a number, and what counts as true or false.
		"-1": whole(-1), "--1": whole(1), "-2.5": dec(-25, 1), "-(1 + 1) * 2": whole(-4), "-999999999999999999": whole(-top), "if (0) then 1 else 2": whole(2), `if ("a") then 1 else 2`: whole(1), `if ("") then 1 else 2`: whole(2), "if (0.5) then 1 else 2": whole(1),
		"if (if (1 eq 1) then 1 eq 2 else 1 eq 1) then 1 else 2": whole(2),
	} {
		if got := simpler(t, api.Module{}, coreOf(t, s)); !same(got, lit(want)) {
			t.Errorf("of %s comes %s, not %+v", s, show(got), want)
		}
	}
}

// What becomes no Lit stays, made of what its parts become.
func TestP173Stays(t *testing.T) {
	for s, want := range map[string]string{
		"$v + (1 + 1)": "$v + 2", "(1 + 1) + $v": "2 + $v", "1 + 1 + $v + 1 + 1": "2 + $v + 1 + 1", "count((1 + 1, 2 * 2))": "count((2, 4))", "local:g(1 + 1)": "local:g(2)",
		"(1 + 1) eq $v": "2 eq $v", "1 to 1 + 1": "1 to 2", "1 + 1 = 2": "2 = 2", "(1 + 1, 3) = 2": "(2, 3) = 2", "$v is (1 + 1)": "$v is 2", "1 + 1 and 2": "2 and 2", "(2 - 2) or $v": "0 or $v", "1 + ()": "1 + ()", "() eq 1": "() eq 1", "-$v": "-$v", "-()": "-()", `-"a"`: `-"a"`,
		"if ($v) then 1 + 1 else 2 + 2": "if ($v) then 2 else 4", "if ($v eq 1 + 1) then 1 else 1": "if ($v eq 2) then 1 else 1", "if (1) then $v else 2": "if (1) then $v else 2", "if (()) then 1 else 2": "if (()) then 1 else 2",
		"for $n in 1 + 1 return 2 + 2": "for $n in 2 return 4", "for $n in (1 to 2 + 3) where $n gt 1 + 1 order by $n * (2 - 1) descending return $n + (1 + 1)": "for $n in 1 to 5 where $n gt 2 order by $n * 1 descending return $n + 2",
		"some $n in (1 + 1, 3) satisfies $n eq 1 + 1": "some $n in (2, 3) satisfies $n eq 2", "every $n in 1 + 1 satisfies 1 + 2": "every $n in 2 satisfies 3", "let $n := $v + (1 + 1) return $n + (1 + 1)": "let $n := $v + 2 return $n + 2",
		"a[1 + 1]": "a[2]", "$v/a[1 + 1][. eq 2 - 1]": "$v/a[2][. eq 1]", "$v[1 + 1]": "$v[2]", "(1 + 1)[1 + 1]": "2[2]", "(1 + 1)/(2 + 2)": "2/4", "$v/(1 + 1)": "$v/2", "//a[b + (1 + 1)]/..": "//a[b + 2]/..",
		"$v union (1 + 1)": "$v union 2", "(1 + 1) intersect $v": "2 intersect $v", "$v except (1 + 1)": "$v except 2", "(1 + 1) instance of xs:integer": "2 instance of xs:integer", "(1 + 1) treat as xs:integer": "2 treat as xs:integer", "(1 + 1) cast as xs:string": "2 cast as xs:string", "(1 + 1) castable as xs:string?": "2 castable as xs:string?", "xs:integer(1 + 1)": "xs:integer(2)",
		"typeswitch (1 + 1) case $n as xs:integer return 1 + 1 case node() return 3 * 3 default return 2 + 2": "typeswitch (2) case $n as xs:integer return 2 case node() return 9 default return 4",
		"<a b='{1 + 1}c'>t{2 + 2}<d>{$v + 1 * 1}</d></a>":                                                     "<a b='{2}c'>t{4}<d>{$v + 1}</d></a>", "element {if (1 eq 1) then 'a' else 'b'} {1 + 1}": "element {'a'} {2}", "attribute {if (1 eq 2) then 'a' else 'b'} {1 + 1, 2}": "attribute {'b'} {2, 2}", "text {1 + 1}": "text {2}", "comment {1 + 1}": "comment {2}", "document {1 + 1}": "document {2}",
		"position() + (1 + 1)": "position() + 2", ". + (1 + 1)": ". + 2", "/": "/", "()": "()", "true()": "true()", "error(1 + 1)": "error(2)", "(1 + 1) + error()": "2 + error()",
	} {
		holdText(t, s, want)
	}
}

// boxes are expressions of Lits, and what comes of each where one stands in each of its Kids, that being no Lit.
var boxes = []func(e api.Expr) api.Expr{
	func(e api.Expr) api.Expr { return expr(api.Add, e, number(1)) },
	func(e api.Expr) api.Expr { return expr(api.Sub, number(1), e) },
	func(e api.Expr) api.Expr { return expr(api.Mul, e, e) },
	func(e api.Expr) api.Expr { return expr(api.Mod, e, lit(dec(25, 1))) },
	func(e api.Expr) api.Expr { return expr(api.VEq, e, number(1)) },
	func(e api.Expr) api.Expr { return expr(api.VGe, str("a"), e) },
	func(e api.Expr) api.Expr { return expr(api.If, expr(api.VLt, e, number(1)), number(1), number(2)) },
	func(e api.Expr) api.Expr { return expr(api.If, yes(), e, number(2)) },
	func(e api.Expr) api.Expr { return expr(api.If, no(), number(1), e) },
}

// What means an error stays, and what is around it, where that is on the way.
func TestP173Errors(t *testing.T) {
	faults := []api.Expr{
		fault(), expr(api.IDiv, number(1), lit(dec(0, 0))), expr(api.Mod, number(1), number(0)), expr(api.Add, number(1), str("a")), expr(api.Sub, yes(), number(1)), expr(api.Mul, number(top), number(2)),
		expr(api.VEq, number(1), str("1")), expr(api.VLt, yes(), number(1)), expr(api.VGe, str("a"), no()), expr(api.Neg, str("a")),
	}
	for _, f := range faults {
		hold(t, f, f)
		for _, outer := range boxes {
			hold(t, outer(f), outer(f))
			hold(t, outer(expr(api.Add, number(1), number(1))), simpler(t, api.Module{}, outer(number(2))))
			for _, inner := range boxes {
				hold(t, outer(inner(f)), outer(inner(f)))
			}
		}
	}
}

// On the way that isn't taken an error is none.
func TestP173WaysNotTaken(t *testing.T) {
	for _, never := range []api.Expr{fault(), variable("x"), expr(api.Seq), named(api.Call, "error"), expr(api.Add, number(1), fault()), expr(api.Dot), number(9)} {
		hold(t, expr(api.If, yes(), number(1), never), number(1))
		hold(t, expr(api.If, no(), never, str("a")), str("a"))
		hold(t, expr(api.If, expr(api.VEq, number(1), number(1)), expr(api.Add, number(1), number(2)), never), number(3))
		hold(t, expr(api.Add, number(1), expr(api.If, expr(api.VNe, number(1), number(1)), never, number(1))), number(2))
		hold(t, named(api.Let, "n", expr(api.If, yes(), number(1), never), variable("n")), number(1))
	}
}

// What is taken, but no Lit, stays within its If.
func TestP173WaysTaken(t *testing.T) {
	for _, taken := range []api.Expr{fault(), variable("x"), expr(api.Seq), named(api.Call, "error"), expr(api.Dot), expr(api.Seq, number(1), number(2))} {
		hold(t, expr(api.If, yes(), taken, number(1)), expr(api.If, yes(), taken, number(1)))
		hold(t, expr(api.If, expr(api.VEq, number(1), number(2)), number(1), taken), expr(api.If, no(), number(1), taken))
	}
}

// Each way to say true and false.
func TestP173Truths(t *testing.T) {
	trues := []api.Expr{yes(), number(1), number(-1), lit(dec(1, 9)), str("false"), str("0"), lit(raw("x")), expr(api.VEq, number(1), number(1)), expr(api.VNe, str("a"), str("b")), expr(api.VGe, yes(), no()), expr(api.If, no(), no(), yes())}
	falses := []api.Expr{no(), number(0), lit(dec(0, 0)), str(""), lit(raw("")), expr(api.VEq, number(1), number(2)), expr(api.VNe, str("a"), str("a")), expr(api.VGe, no(), yes()), expr(api.If, yes(), no(), yes())}
	for _, test := range trues {
		hold(t, expr(api.If, test, str("then"), str("else")), str("then"))
	}
	for _, test := range falses {
		hold(t, expr(api.If, test, str("then"), str("else")), str("else"))
	}
}

// Untyped values stand in no core, but mean what they mean.
func TestP172Untyped(t *testing.T) {
	hold(t, expr(api.Add, lit(raw(" 5 ")), number(1)), lit(dec(6, 0)))
	hold(t, expr(api.VEq, lit(raw("a")), str("a")), yes())
	for _, e := range []api.Expr{expr(api.VEq, lit(raw("1")), number(1)), expr(api.Add, lit(raw("x")), number(1)), expr(api.IDiv, number(1), lit(raw("0.0")))} {
		hold(t, e, e)
	}
	hold(t, named(api.Let, "x", lit(raw("a")), variable("x")), lit(raw("a")))
}
