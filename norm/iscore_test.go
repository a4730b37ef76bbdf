package norm_test

import (
	"fmt"
	"math"
	"regexp"
	"slices"
	"testing"

	"espalier/api"
)

// coreOps are the expressions of the core, and how many Kids the tests give each, where it isn't told otherwise.
var coreOps = map[api.Op]int{
	api.Lit: 0, api.Var: 0, api.Dot: 0, api.Seq: 3, api.Range: 2, api.Add: 2, api.Sub: 2, api.Mul: 2, api.Div: 2, api.IDiv: 2, api.Mod: 2, api.Neg: 1,
	api.VEq: 2, api.VNe: 2, api.VLt: 2, api.VLe: 2, api.VGt: 2, api.VGe: 2, api.GEq: 2, api.GNe: 2, api.GLt: 2, api.GLe: 2, api.GGt: 2, api.GGe: 2,
	api.Is: 2, api.Before: 2, api.After: 2, api.And: 2, api.Or: 2, api.If: 3, api.For: 2, api.Let: 2, api.Order: 4, api.Some: 2, api.Every: 2,
	api.Root: 0, api.Path: 2, api.Step: 0, api.Filter: 2, api.Union: 2, api.Inter: 2, api.Except: 2, api.Instance: 1, api.Cast: 1, api.Castable: 1, api.Treat: 1,
	api.Switch: 3, api.Case: 1, api.Call: 3, api.MakeElem: 3, api.MakeAttr: 3, api.MakeText: 1, api.MakeCom: 1, api.MakeDoc: 1, api.Convert: 1,
}

// holdCore holds IsCore of an expression to this answer.
func holdCore(t *testing.T, e api.Expr, want bool) {
	t.Helper()
	if got := isCore(t, e); got != want {
		t.Errorf("IsCore of %s: %v", short(show(e)), got)
	}
}

// ofCount is such an expression, with as many Kids.
func ofCount(op api.Op, count int) api.Expr {
	return expr(op, slices.Repeat([]api.Expr{number(1)}, count)...)
}

// around are core expressions around one, as the first of their Kids, the second and so on, but where a path walks to it.
func around(e api.Expr) []api.Expr {
	var all []api.Expr
	for op := range api.Ops {
		count := coreOps[api.Op(op)]
		for i := range count {
			if api.Op(op) == api.Path && i == 1 {
				continue
			}
			a := ofCount(api.Op(op), count)
			a.Kids[i] = e
			all = append(all, a)
		}
	}
	return all
}

// walkedTo is the path that walks to an expression.
func walkedTo(e api.Expr) api.Expr { return expr(api.Path, expr(api.Dot), e) }

func TestP132Ops(t *testing.T) {
	t.Parallel()
	ops := []api.Op{math.MinInt, math.MinInt32, math.MaxInt, math.MaxInt32, math.MaxUint32, 1 << 32}
	for op := -70; op < 400; op++ {
		ops = append(ops, api.Op(op), api.Op(op+1<<32))
	}
	for _, op := range ops {
		count, core := coreOps[op]
		e := ofCount(op, count)
		alone := core && op != api.Step
		holdCore(t, e, alone)
		holdCore(t, walkedTo(e), core)
		holdCore(t, walkedTo(walkedTo(e)), core)
		for _, a := range around(e) {
			holdCore(t, a, alone)
			holdCore(t, expr(api.Neg, expr(api.Neg, a)), alone)
			walked := a.Op == api.Filter && equal(a.Kids[0], e, false)
			holdCore(t, walkedTo(a), alone || walked && core)
		}
	}
	if len(coreOps) != 55 {
		t.Errorf("%d expressions are core", len(coreOps))
	}
	holdCore(t, api.Expr{}, false)
}

// What else an expression says makes no core of it and no other thing of a core.
func TestP132Fields(t *testing.T) {
	fill := api.Expr{Name: "n", At: "p", Val: api.Atom{Kind: api.Untyped, S: "s"}, Type: api.SeqType{Item: api.IntItem, Name: "t", Occ: 9}, Axis: api.Child, Test: api.Test{Kind: api.Named, Name: "n"}, Down: true}
	for op := range api.Ops + 3 {
		count, core := coreOps[api.Op(op)]
		e := fill
		e.Op, e.Kids = api.Op(op), slices.Repeat([]api.Expr{number(1)}, count)
		holdCore(t, walkedTo(e), core)
	}
	holdCore(t, literal(api.Atom{Kind: api.Untyped}), true)
	holdCore(t, named(api.Call, "xs:integer", number(1)), true)
	holdCore(t, named(api.Call, "string"), true)
	holdCore(t, named(api.MakeElem, "a", number(1)), true)
	holdCore(t, variable("nothing"), true)
}

// A For, a Let and an Order have so many Kids and no others; of others none is asked for.
func TestP132Counts(t *testing.T) {
	for op := range api.Ops {
		wanted, core := coreOps[api.Op(op)]
		if !core || api.Op(op) == api.Step {
			continue
		}
		for count := range 7 {
			e := ofCount(api.Op(op), count)
			want := count == wanted
			if api.Op(op) != api.For && api.Op(op) != api.Let && api.Op(op) != api.Order {
				want = true
			}
			holdCore(t, e, want)
			holdCore(t, walkedTo(e), want)
			for _, a := range around(e) {
				holdCore(t, a, want)
			}
		}
	}
}

func TestP132Steps(t *testing.T) {
	a, one := step("a"), number(1)
	f := func(kids ...api.Expr) api.Expr { return expr(api.Filter, kids...) }
	p := func(kids ...api.Expr) api.Expr { return expr(api.Path, kids...) }
	for _, e := range []api.Expr{p(one, a), p(one, f(a, one)), p(one, f(f(a, one), one)), p(one, f(f(f(a)))), p(p(one, a), a), p(one, p(one, a)), p(p(one, f(a, one)), f(a, p(one, a))), f(p(one, a), p(one, a)), p(f(p(one, a), one), a), p(one, f(a)), p(one, a, one), p(one, expr(api.Step, one)), expr(api.Seq, p(one, a), p(one, a)), p(one, f(p(one, a), one))} {
		holdCore(t, e, true)
		for _, o := range around(e) {
			holdCore(t, o, true)
		}
	}
	for _, e := range []api.Expr{a, f(a, one), f(f(a, one), one), f(a), p(a, one), p(a), p(a, a), p(one, a, a), p(one, one, a), p(f(a, one), a), p(f(a, one), one), p(one, f(one, a)), p(one, f(a, a)), p(one, f(a, one, a)), p(one, f(f(one, a), one)), p(one, f(a, f(a, one))), p(one, f(f(a, f(a, one)), one)), p(one, expr(api.Seq, a)), p(one, expr(api.Seq, a, a)), p(one, p(a, a)), p(one, p(a, one)), p(one, f(p(a, one), one)), p(one, f(expr(api.Seq, a), one)), p(one, expr(api.Step, a)), p(one, f(expr(api.Step, a), one)), p(one, expr(api.Convert, a)), p(one, expr(api.Neg, f(a, one))), expr(api.Let, one, a), expr(api.Order, one, one, one, f(a, one)), expr(api.Seq, p(one, a), a)} {
		holdCore(t, e, false)
		holdCore(t, expr(api.Seq, one, e), false)
		holdCore(t, p(e, one), false)
		holdCore(t, p(one, f(one, e)), false)
	}
}

// walkedThere is how the way to a place where a step may stand ends: a Path's second Kid, and first Kids of Filters.
var walkedThere = regexp.MustCompile(`^(.* )?Path1( Filter0)*$`)

// judged tells whether an expression is core by the way that leads to each part of it.
func judged(e api.Expr, way string) bool {
	count, core := coreOps[e.Op]
	if !core || e.Op == api.Step && !walkedThere.MatchString(way) {
		return false
	}
	if (e.Op == api.For || e.Op == api.Let || e.Op == api.Order) && len(e.Kids) != count {
		return false
	}
	word := map[api.Op]string{api.Path: "Path", api.Filter: "Filter"}[e.Op]
	for i, kid := range e.Kids {
		next := fmt.Sprint(word, i)
		if way != "" {
			next = way + " " + next
		}
		if !judged(kid, next) {
			return false
		}
	}
	return true
}

// forests tells each of all rows of trees of these expressions, of so many in all.
func forests(count int, ops []api.Op, each func(row []api.Expr)) {
	if count == 0 {
		each(nil)
		return
	}
	for first := 1; first <= count; first++ {
		forests(first-1, ops, func(kids []api.Expr) {
			for _, op := range ops {
				forests(count-first, ops, func(rest []api.Expr) {
					each(append([]api.Expr{expr(op, kids...)}, rest...))
				})
			}
		})
	}
}

// All trees of some expressions.
func TestP132All(t *testing.T) {
	t.Parallel()
	met := map[bool]int{}
	for _, ops := range [][]api.Op{{api.Step, api.Path, api.Filter, api.Seq}, {api.Step, api.Filter, api.For, api.Lit}, {api.Lit, api.Let, api.Order}} {
		for count := range 6 {
			forests(count, ops, func(row []api.Expr) {
				for _, e := range row {
					want := judged(e, "")
					met[want]++
					holdCore(t, e, want)
				}
				if len(row) == 2 {
					e := expr(api.Path, row...)
					holdCore(t, e, judged(e, ""))
				}
			})
		}
	}
	if met[true] < 1000 || met[false] < 1000 {
		t.Errorf("%v", met)
	}
}

// What is read is core just if nothing in it must be brought down.
func TestP132Read(t *testing.T) {
	t.Parallel()
	met := map[bool]int{}
	for _, r := range allRows() {
		for _, p := range append(somePlaces(), place{row{text: "#"}, true}) {
			e := read(t, atFront+p.filled(r).text).Body
			want := judged(e, "")
			met[want]++
			holdCore(t, e, want)
		}
	}
	if met[true] < 100 || met[false] < 1000 {
		t.Errorf("%v", met)
	}
	for _, s := range []string{"1", ".", "/", "(1, 2)", "1 + 2", "/a", "/a/b", "//a[1]", "./a", "if (1) then 2 else 3", "string(.)", "count(/a)", "xs:integer(1)", "element {'a'} {/b}", "some $x in 1 satisfies $x", "typeswitch (1) case item() return 2 default return 3"} {
		holdCore(t, read(t, s).Body, true)
	}
	for _, s := range []string{"a", "a[1]", "1[a]", "a/b", "/a[b]", "(1, a)", "count(a)", "for $x in 1 return 2", "let $x := 1 return 2", "for $x in 1 order by 2 return 3", "<a/>", "1 + <a/>", "element {'a'} {b}", "/a[<b/>]", "(1, (2, <a b='c'>d</a>))"} {
		holdCore(t, read(t, s).Body, false)
	}
}
