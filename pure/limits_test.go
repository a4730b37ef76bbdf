package pure_test

import (
	"slices"
	"strings"
	"testing"

	"espalier/api"
	"espalier/norm"
	"espalier/parse"
	"espalier/pure"
)

// line is a number that grows by so many with each one of something.
type line struct{ at0, each int }

func (l line) of(count int) int { return l.at0 + l.each*count }

// longs are queries as long as there is room for: what stands in front, what comes again and again, what stands at the end; what is told, the uses of x, and the size.
var longs = []struct {
	front, unit, end string
	want             told
	uses, size       line
}{
	{"$x", "+$x", "", told{}, line{1, 1}, line{1, 2}},
	{"$x", ",1", ",$x", plain, line{2, 0}, line{3, 1}},
	{"$x", ",1", ",.", told{safe: false, focus: true}, line{1, 0}, line{3, 1}},
	{"$x", ",$x", ",<a/>", told{fresh: true}, line{1, 1}, line{4, 1}},
	{"", "-", "$x", told{}, line{1, 0}, line{1, 1}},
	{"$x", "/a", "", told{}, line{1, 0}, line{1, 2}},
	{"$x", "/$x", "", told{}, line{1, 1}, line{1, 2}},
	{"a", "/$x", "", told{focus: true}, line{0, 1}, line{3, 2}},
	{"$x", "[$x]", "", told{}, line{1, 1}, line{1, 2}},
	{"$x", "[.]", "", told{}, line{1, 0}, line{1, 2}},
	{".", "[$x]", "", told{focus: true}, line{0, 1}, line{1, 2}},
	{"$x", "//b", "", told{}, line{1, 0}, line{1, 4}},
	{"$x", "|$x", "", told{}, line{1, 1}, line{1, 2}},
	{"$x", " and $x", "", told{}, line{1, 1}, line{1, 2}},
	{"let $v:=$x", ",$v:=$x", " return $x", plain, line{2, 1}, line{3, 2}},
	{"let $v:=$x", ",$x:=$x", " return $x", plain, line{2, 0}, line{3, 2}},
	{"let $x:=$x", ",$v:=$x", " return $x", plain, line{1, 0}, line{3, 2}},
	{"for $v in $x", ",$v in ($x,$v)", " return $x", plain, line{2, 1}, line{3, 4}},
	{"for $v in $x", ",$v at $x in $x", " return $x", plain, line{2, 0}, line{3, 2}},
	{"for $v at $x in $x", ",$v in $x", " return $x", plain, line{1, 0}, line{3, 2}},
	{"for $v in $x", ",$v in 1", " return .", told{focus: true}, line{1, 0}, line{3, 2}},
	{"some $v in $x", ",$v in $x", " satisfies $x", told{}, line{2, 1}, line{3, 2}},
	{"every $x in $x", ",$v in $x", " satisfies $x", told{}, line{1, 0}, line{3, 2}},
	{"typeswitch($x)", "case $x as node()return $x ", "default return $x", told{}, line{2, 0}, line{4, 2}},
	{"typeswitch($x)", "case node()return $x ", "default $x return $x", told{}, line{1, 1}, line{4, 2}},
	{"<a>", "{$x}", "</a>", told{fresh: true}, line{0, 1}, line{2, 1}},
	{"<a>", "<b/>", "{$x}</a>", told{fresh: true}, line{1, 0}, line{3, 2}},
	{"<a b='", "{$x}", "'/>", told{fresh: true}, line{0, 1}, line{4, 1}},
	{"count($x)", ",count($x)", "", plain, line{1, 1}, line{3, 2}},
	{"count($x)", ",last()", "", told{focus: true}, line{1, 0}, line{3, 1}},
}

// putRightly tells whether one tree is another one but for some Lits of 5 where that has $x, and how many.
func putRightly(e, got api.Expr) (int, bool) {
	if same(got, number(5)) && same(e, variable("x")) {
		return 1, true
	}
	if !alike(e, got) || len(e.Kids) != len(got.Kids) {
		return 0, false
	}
	count := 0
	for i := range e.Kids {
		n, ok := putRightly(e.Kids[i], got.Kids[i])
		if !ok {
			return 0, false
		}
		count += n
	}
	return count, true
}

// holdBig holds what is told of a great tree.
func holdBig(t *testing.T, what string, e api.Expr, want told, uses, size int) {
	t.Helper()
	if got := (told{pure.Safe(e), pure.Fresh(e), pure.Focus(e)}); got != want {
		t.Errorf("%s: %+v, not %+v", what, got, want)
	}
	if got := pure.Uses("x", e); got != uses {
		t.Errorf("%s: %d uses, not %d", what, got, uses)
	}
	if got := pure.Size(e); got != size {
		t.Errorf("%s: size %d, not %d", what, got, size)
	}
	put := pure.Put(e, "x", number(5))
	if count, ok := putRightly(e, put); !ok || count != uses {
		t.Errorf("%s: %d were put, %v", what, count, ok)
	}
	if pure.Uses("x", put) != 0 || pure.Uses("x", e) != uses {
		t.Errorf("%s: %d uses behind Put, %d in what was handed in", what, pure.Uses("x", put), pure.Uses("x", e))
	}
}

func TestP161Long(t *testing.T) {
	t.Parallel()
	const front = "declare variable $x:=1;"
	for _, l := range longs {
		most := (api.MaxQuery - len(front) - len(l.front) - len(l.end)) / len(l.unit)
		for _, count := range []int{1, 2, 3, 50, most} {
			text := front + l.front + strings.Repeat(l.unit, count) + l.end
			m, err := parse.Parse(text)
			core, bad := norm.Core(m)
			if err != api.OK || bad != api.OK {
				t.Fatalf("%q: %v, %v", short(text), err, bad)
			}
			holdBig(t, short(text), core.Body, l.want, l.uses.of(count), l.size.of(count))
		}
	}
}

// nests are how an expression may lie in another one: with how many levels, expressions and uses of x beside it; whether its uses are hidden so, and its looking at the focus.
var nests = []struct {
	lies               func(e api.Expr) api.Expr
	levels, size, uses int
	hides, ownFocus    bool
	itself             told
}{
	{func(e api.Expr) api.Expr { return expr(api.Seq, e) }, 1, 1, 0, false, false, plain},
	{func(e api.Expr) api.Expr { return expr(api.Seq, variable("x"), e, number(1)) }, 1, 3, 1, false, false, plain},
	{func(e api.Expr) api.Expr { return expr(api.Instance, e) }, 1, 1, 0, false, false, plain},
	{func(e api.Expr) api.Expr { return expr(api.Castable, e) }, 1, 1, 0, false, false, plain},
	{func(e api.Expr) api.Expr { return named(api.Call, "count", e) }, 1, 1, 0, false, false, plain},
	{func(e api.Expr) api.Expr { return named(api.Let, "v", e, variable("x")) }, 1, 2, 1, false, false, plain},
	{func(e api.Expr) api.Expr { return named(api.Let, "v", variable("x"), e) }, 1, 2, 1, false, false, plain},
	{func(e api.Expr) api.Expr { return named(api.Let, "x", e, variable("x")) }, 1, 2, 0, false, false, plain},
	{func(e api.Expr) api.Expr { return named(api.Let, "x", variable("x"), e) }, 1, 2, 1, true, false, plain},
	{func(e api.Expr) api.Expr { return at(api.For, "v", "w", e, number(1)) }, 1, 2, 0, false, false, plain},
	{func(e api.Expr) api.Expr { return at(api.For, "v", "x", number(1), e) }, 1, 2, 0, true, false, plain},
	{func(e api.Expr) api.Expr { return expr(api.Neg, e) }, 1, 1, 0, false, false, told{}},
	{func(e api.Expr) api.Expr { return expr(api.Add, e, number(1)) }, 1, 2, 0, false, false, told{}},
	{func(e api.Expr) api.Expr { return expr(api.If, number(1), e, number(2)) }, 1, 3, 0, false, false, told{}},
	{func(e api.Expr) api.Expr { return named(api.Some, "x", e, variable("x")) }, 1, 2, 0, false, false, told{}},
	{func(e api.Expr) api.Expr { return named(api.Every, "v", variable("x"), e) }, 1, 2, 1, false, false, told{}},
	{func(e api.Expr) api.Expr { return at(api.Order, "v", "x", e, number(1), number(1), variable("x")) }, 1, 4, 0, false, false, told{}},
	{func(e api.Expr) api.Expr {
		return expr(api.Switch, e, named(api.Case, "x", variable("x")), named(api.Case, "v", number(1)))
	}, 2, 5, 0, false, false, told{}},
	{func(e api.Expr) api.Expr { return expr(api.Switch, number(1), named(api.Case, "v", e)) }, 2, 3, 0, false, false, told{}},
	{func(e api.Expr) api.Expr { return expr(api.Path, e, step()) }, 1, 2, 0, false, false, told{}},
	{func(e api.Expr) api.Expr { return expr(api.Path, variable("v"), e) }, 1, 2, 0, false, true, told{}},
	{func(e api.Expr) api.Expr { return expr(api.Filter, e, expr(api.Dot)) }, 1, 2, 0, false, false, told{}},
	{func(e api.Expr) api.Expr { return expr(api.Filter, variable("v"), e) }, 1, 2, 0, false, true, told{}},
	{func(e api.Expr) api.Expr { return expr(api.MakeElem, str("a"), e) }, 1, 2, 0, false, false, told{fresh: true}},
	{func(e api.Expr) api.Expr { return named(api.Call, "local:f", e) }, 1, 1, 0, false, false, told{fresh: true}},
}

// bottoms are what lies deepest.
var bottoms = []struct {
	e    api.Expr
	want told
	uses int
}{
	{variable("x"), plain, 1},
	{expr(api.Dot), told{focus: true}, 0},
	{expr(api.MakeText), told{fresh: true}, 0},
	{expr(api.Root), told{focus: true}, 0},
}

// As deep as what is handed in may lie in itself, 2^16 levels: some by themselves, all by turns.
func TestP161Deep(t *testing.T) {
	t.Parallel()
	for i, n := range nests {
		levels := 1 << 10
		if i%5 == 1 {
			levels = 1 << 16
		}
		for _, b := range bottoms {
			e, want, uses, size := b.e, b.want, b.uses, 1
			for range levels/n.levels - 2 {
				if n.hides {
					uses = 0
				}
				e, uses, size, want = n.lies(e), uses+n.uses, size+n.size, around(n.itself, want, n.ownFocus)
			}
			holdBig(t, show(n.lies(b.e)), e, want, uses, size)
			if levels > 1<<10 {
				break
			}
		}
	}
}

func TestP161DeepOfAll(t *testing.T) {
	t.Parallel()
	for _, b := range bottoms {
		e, want, uses, size := b.e, b.want, b.uses, 1
		for i, levels := 0, 1; levels < 1<<16-4; i++ {
			n := nests[i%len(nests)]
			if n.hides {
				uses = 0
			}
			e, uses, size, want = n.lies(e), uses+n.uses, size+n.size, around(n.itself, want, n.ownFocus)
			levels += n.levels
		}
		holdBig(t, "all deep trees", e, want, uses, size)
	}
}

// As wide as there is room for.
func TestP161Wide(t *testing.T) {
	t.Parallel()
	const count = 1 << 18
	e := expr(api.Seq, slices.Repeat([]api.Expr{variable("x"), number(1)}, count/2)...)
	holdBig(t, "a wide tree", e, plain, count/2, count+1)
	e.Kids[count-1] = expr(api.Dot)
	holdBig(t, "a wide tree", e, told{focus: true}, count/2, count+1)
	e = named(api.Let, "x", e, e)
	holdBig(t, "a wide tree", e, told{focus: true}, count/2, 2*count+3)
	if got := pure.Size(e.Kids[0].Kids...); got != count {
		t.Errorf("%d wide arguments have the size %d", count, got)
	}
}
