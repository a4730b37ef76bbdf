package opt_test

import (
	"strings"
	"testing"

	"espalier/api"
	"espalier/opt"
	"espalier/pure"
)

// longs are queries as long as there is room for: what stands in front, what comes again and again, what stands at the end. Behind them what comes of one with so many.
var longs = []struct {
	front, unit, end string
	want             func(count int) api.Expr
}{
	{"1", "+1", "", func(count int) api.Expr { return number(count + 1) }},
	{"0.5", "-0.5", "", func(count int) api.Expr { return lit(tenths(5 - 5*count)) }},
	{"1", "*1", "+0", func(int) api.Expr { return number(1) }},
	{"", "-", "1", func(count int) api.Expr { return number(1 - 2*(count%2)) }},
	{"let $v:=1", ",$v:=$v", " return $v", func(int) api.Expr { return number(1) }},
	{"let $v:=1", ",$v:=1+$v", " return $v", func(count int) api.Expr { return number(count + 1) }},
	{"let $v:=1", ",$w:=$v,$v:=$w", " return ($v,$w)", func(int) api.Expr { return expr(api.Seq, number(1), number(1)) }},
	{"let $w:=1,$v:=.", ",$v:=$v", " return ($w,$v)", func(count int) api.Expr {
		e := expr(api.Seq, number(1), variable("v"))
		for range count {
			e = named(api.Let, "v", variable("v"), e)
		}
		return named(api.Let, "v", expr(api.Dot), e)
	}},
	{"let $v:=1 for $w in $v", ",$w in ($v,$w)", " return ($v,$w)", func(count int) api.Expr {
		e := expr(api.Seq, number(1), variable("w"))
		for range count {
			e = named(api.For, "w", expr(api.Seq, number(1), variable("w")), e)
		}
		return named(api.For, "w", number(1), e)
	}},
	{"let $v:=1 for $v in $v", ",$v in $v", " return $v", func(count int) api.Expr {
		e := variable("v")
		for range count {
			e = named(api.For, "v", variable("v"), e)
		}
		return named(api.For, "v", number(1), e)
	}},
	{"let $v:=2 return .+$v", "+$v", "", func(count int) api.Expr {
		e := expr(api.Add, expr(api.Dot), number(2))
		for range count {
			e = expr(api.Add, e, number(2))
		}
		return e
	}},
	{"let $v:=2 return .", "[$v]", "", func(count int) api.Expr {
		e := expr(api.Dot)
		for range count {
			e = expr(api.Filter, e, number(2))
		}
		return e
	}},
	{"let $v:=2 return .", "/$v", "", func(count int) api.Expr {
		e := expr(api.Dot)
		for range count {
			e = expr(api.Path, e, number(2))
		}
		return e
	}},
	{"let $v:=2 return (.", ",1+$v", ")", func(count int) api.Expr {
		e := expr(api.Seq, expr(api.Dot))
		for range count {
			e.Kids = append(e.Kids, number(3))
		}
		return e
	}},
	{"some $v in 1+1", ",$v in 1+1", " satisfies $v", func(count int) api.Expr {
		e := variable("v")
		for range count + 1 {
			e = named(api.Some, "v", number(2), e)
		}
		return e
	}},
	{"let $v:=2 return <a>", "{$v}", "</a>", func(count int) api.Expr {
		e := expr(api.MakeElem, str("a"))
		for range count {
			e.Kids = append(e.Kids, number(2))
		}
		return e
	}},
}

// tenths is a Dec of so many tenths.
func tenths(n int) api.Atom {
	if n%10 == 0 {
		return dec(n/10, 0)
	}
	return dec(n, 1)
}

func TestP173Long(t *testing.T) {
	t.Parallel()
	for _, l := range longs {
		most := (api.MaxQuery - len(l.front) - len(l.end)) / len(l.unit)
		for _, count := range []int{1, 2, 3, 50, most} {
			s := l.front + strings.Repeat(l.unit, count) + l.end
			e := moduleOf(t, s).Body
			got := opt.Expr(api.Module{}, e)
			holdShape(t, e, got)
			if !same(got, l.want(count)) {
				t.Errorf("of %s comes %s", short(s), show(got))
			}
		}
	}
}

// nests are how an expression may lie in another one, with so many levels: does it become 1, where that lies in it?
var nests = []struct {
	lies   func(e api.Expr) api.Expr
	levels int
	folds  bool
}{
	{func(e api.Expr) api.Expr { return expr(api.Add, e, number(0)) }, 1, true},
	{func(e api.Expr) api.Expr { return expr(api.Mul, number(1), e) }, 1, true},
	{func(e api.Expr) api.Expr { return expr(api.IDiv, e, lit(dec(1, 0))) }, 1, true},
	{func(e api.Expr) api.Expr { return expr(api.If, yes(), e, fault()) }, 1, true},
	{func(e api.Expr) api.Expr { return expr(api.If, no(), str("a"), e) }, 1, true},
	{func(e api.Expr) api.Expr {
		return expr(api.If, expr(api.VEq, e, number(1)), number(1), number(2))
	}, 2, true},
	{func(e api.Expr) api.Expr { return named(api.Let, "v", e, variable("v")) }, 1, true},
	{func(e api.Expr) api.Expr {
		return named(api.Let, "v", e, named(api.Let, "w", variable("v"), variable("w")))
	}, 1, true},
	{func(e api.Expr) api.Expr { return named(api.Let, "v", number(3), e) }, 1, true},
	{func(e api.Expr) api.Expr { return expr(api.Seq, e) }, 1, false},
	{func(e api.Expr) api.Expr { return named(api.For, "v", expr(api.Dot), e) }, 1, false},
	{func(e api.Expr) api.Expr { return named(api.For, "v", e, variable("v")) }, 1, false},
	{func(e api.Expr) api.Expr { return named(api.Let, "w", expr(api.Dot), e) }, 1, false},
	{func(e api.Expr) api.Expr { return named(api.Every, "v", number(1), e) }, 1, false},
	{func(e api.Expr) api.Expr { return expr(api.Switch, number(1), named(api.Case, "v", e)) }, 2, false},
	{func(e api.Expr) api.Expr { return expr(api.Path, e, step()) }, 1, false},
	{func(e api.Expr) api.Expr { return expr(api.Filter, expr(api.Dot), e) }, 1, false},
	{func(e api.Expr) api.Expr { return expr(api.MakeElem, str("a"), e) }, 1, false},
	{func(e api.Expr) api.Expr { return named(api.Call, "count", e) }, 1, false},
}

// nested is an expression that lies in as many levels.
func nested(e api.Expr, levels int, lies func(e api.Expr) api.Expr, each int) api.Expr {
	for range levels / each {
		e = lies(e)
	}
	return e
}

// holdNested holds what comes of an expression that lies in many others, if these become Lits, where it is one, or else stay.
func holdNested(t *testing.T, what string, e, got api.Expr, folds bool) {
	t.Helper()
	if folds && !same(got, number(1)) {
		t.Errorf("of many of %s comes %s", what, show(got))
	}
	if !folds && pure.Size(got) != pure.Size(e) {
		t.Errorf("of many of %s, of the size %d, comes the size %d", what, pure.Size(e), pure.Size(got))
	}
}

func TestP173Nested(t *testing.T) {
	t.Parallel()
	for _, n := range nests {
		e := nested(number(1), 1<<8, n.lies, n.levels)
		holdNested(t, show(n.lies(number(1))), e, simpler(t, api.Module{}, e), n.folds)
		// What lies within, and becomes no Lit, is there still.
		bottom := expr(api.Div, variable("x"), number(0))
		got := simpler(t, api.Module{}, nested(bottom, 1<<8, n.lies, n.levels))
		for len(got.Kids) > 0 && !same(got, bottom) {
			at := 0
			for at < len(got.Kids)-1 && pure.Uses("x", got.Kids[at]) == 0 {
				at++
			}
			got = got.Kids[at]
		}
		if !same(got, bottom) {
			t.Errorf("in many of %s nothing is left of %s", show(n.lies(number(1))), show(bottom))
		}
	}
}

// As deep as what is handed in may lie in itself, 2^16 levels.
func TestP173Deep(t *testing.T) {
	t.Parallel()
	for _, n := range nests {
		e := nested(number(1), 1<<16-4, n.lies, n.levels)
		holdNested(t, show(n.lies(number(1))), e, opt.Expr(api.Module{}, e), n.folds)
	}
}

// As deep, with all of them by turns.
func TestP173DeepOfAll(t *testing.T) {
	t.Parallel()
	e := number(1)
	for i, levels := 0, 2; levels < 1<<16-4; i++ {
		n := nests[i%len(nests)]
		e, levels = n.lies(e), levels+n.levels
	}
	got := opt.Expr(api.Module{}, e)
	holdShape(t, e, got)
	if !same(opt.Expr(api.Module{}, got), got) {
		t.Errorf("what is simple already becomes simpler")
	}
	m := opt.Module(api.Module{Globals: []api.Global{{Name: "g", Body: e}}, Funcs: []api.Func{{Name: "local:f", Body: e}}, Body: e})
	if !same(m.Body, got) || !same(m.Globals[0].Body, got) || !same(m.Funcs[0].Body, got) {
		t.Errorf("a query's expressions become other ones")
	}
}

// As wide as there is room for.
func TestP173Wide(t *testing.T) {
	t.Parallel()
	const count = 1 << 16
	e, want := expr(api.Seq), expr(api.Seq)
	for range count {
		e.Kids = append(e.Kids, expr(api.Add, variable("n"), number(1)), variable("n"))
		want.Kids = append(want.Kids, number(6), number(5))
	}
	if got := opt.Expr(api.Module{}, named(api.Let, "n", number(5), e)); !same(got, want) {
		t.Errorf("of a wide tree comes another one")
	}
}
