package cmp

import (
	"math"
	"math/big"
	"slices"
	"strings"
	"testing"

	"espalier/api"
	"espalier/atom"
	"espalier/char"
	"espalier/dec"
)

const top = 999999999999999999

var (
	values   = []api.Op{api.VEq, api.VNe, api.VLt, api.VLe, api.VGt, api.VGe}
	generals = []api.Op{api.GEq, api.GNe, api.GLt, api.GLe, api.GGt, api.GGe}
	truth    = atom.Truth(true)
	untruth  = atom.Truth(false)
)

func row(as ...api.Atom) []api.Atom { return as }

// number is the Dec that s says.
func number(t *testing.T, s string) api.Atom {
	t.Helper()
	a, e := atom.Cast(atom.Text(s), api.Dec)
	if e != api.OK {
		t.Fatalf("the Dec %q: %v", s, e)
	}
	return a
}

// numbers are Ints and Decs: the edges of each Scale, the same N at other Scales, and what stands beside them.
func numbers() []api.Atom {
	var as []api.Atom
	for _, n := range []int{0, 1, 2, 5, 10, 15, 100, 1000000000, 1000000001, top, top - 1} {
		as = append(as, atom.Of(n), atom.Of(-n))
		for scale := range api.MaxScale + 1 {
			for _, d := range []dec.Num{{N: n, Scale: scale}, {N: -n, Scale: scale}} {
				if dec.Right(d) {
					as = append(as, atom.Number(d))
				}
			}
		}
	}
	return as
}

// texts stand in their order, each above those ahead of it.
var texts = []string{
	"", "\t", "\n", " ", "  ", " 7", "+7", "-7", ".5", "0", "0.0", "00", "1", "10", "1e5", "2", "7", "7 ", "7.0", "A", "B", "Z", "a", "a ", "aa", "ab", "b", "false", "true", "true ",
	"é", "éa", "ê", "\u07ff", "\u0800", "\ud7ff", "\ue000", "\ufffd", "\U00010000", "\U0001F600", "\U0010FFFF",
}

// rights are right values of every kind.
func rights() []api.Atom {
	as := append(numbers(), untruth, truth)
	for _, s := range texts {
		as = append(as, atom.Text(s), atom.Raw(s))
	}
	return as
}

// some are right values of every kind, few enough to take each with each of each.
func some(t *testing.T) []api.Atom {
	as := row(untruth, truth)
	for _, n := range []int{0, 1, -1, 2, 10, top, -top} {
		as = append(as, atom.Of(n))
	}
	for _, s := range []string{"0", "1", "-1", "2", "0.5", "-0.5", "1.5", "1.000000001", "0.000000001", "-0.000000001", "999999999.999999999", "999999999999999999", "99999999999999999.9"} {
		as = append(as, number(t, s))
	}
	for _, s := range []string{"", " ", "0", "1", "10", "2", "a", "aa", "ab", "b", "false", "true", "é", "\ufffd", "\U0001F600"} {
		as = append(as, atom.Text(s), atom.Raw(s))
	}
	return as
}

// wrongs are values that aren't right.
func wrongs() []api.Atom {
	var as []api.Atom
	for _, kind := range []api.AtomKind{0, 6, -1, 7, math.MaxInt, math.MinInt} {
		as = append(as, api.Atom{Kind: kind}, api.Atom{Kind: kind, N: 1, S: "1", B: true})
	}
	for _, n := range []int{0, 1, -1, 10, top + 1, math.MaxInt, math.MinInt} {
		for _, scale := range []int{-1, 1, 9, 10, 100, math.MaxInt, math.MinInt} {
			as = append(as, api.Atom{Kind: api.Int, N: n, Scale: scale}, api.Atom{Kind: api.Dec, N: n, Scale: scale})
		}
		as = append(as, api.Atom{Kind: api.Int, N: n, S: "x"}, api.Atom{Kind: api.Dec, N: n, B: true}, api.Atom{Kind: api.Str, S: "1", N: n, B: true}, api.Atom{Kind: api.Untyped, S: "1", N: n, B: true}, api.Atom{Kind: api.Bool, S: "1", N: n})
	}
	for _, s := range []string{"\x00", "\x01", "\xff", "1\xc3", "\xed\xa0\x80", "\ufffe", "true\x00"} {
		as = append(as, api.Atom{Kind: api.Str, S: s}, api.Atom{Kind: api.Untyped, S: s})
	}
	return as
}

func isNumber(a api.Atom) bool { return a.Kind == api.Int || a.Kind == api.Dec }

func isText(a api.Atom) bool { return a.Kind == api.Str || a.Kind == api.Untyped }

func size(a api.Atom) *big.Rat {
	tens := new(big.Int).Exp(big.NewInt(10), big.NewInt(int64(a.Scale)), nil)
	return new(big.Rat).SetFrac(big.NewInt(int64(a.N)), tens)
}

// meant is what P4.1 says, by big numbers and by characters' numbers.
func meant(a, b api.Atom) (int, api.Errno) {
	switch {
	case isNumber(a) && isNumber(b):
		return size(a).Cmp(size(b)), api.OK
	case isText(a) && isText(b):
		return slices.Compare(char.Points(a.S), char.Points(b.S)), api.OK
	case a.Kind == api.Bool && b.Kind == api.Bool:
		return slices.Index([]bool{false, true}, a.B) - slices.Index([]bool{false, true}, b.B), api.OK
	}
	return 0, api.ErrType
}

// wanted are, by an order below, the same and above, the comparisons of values that are true.
var wanted = map[int][]api.Op{
	-1: {api.VNe, api.VLt, api.VLe},
	0:  {api.VEq, api.VLe, api.VGe},
	1:  {api.VNe, api.VGt, api.VGe},
}

func checkOrder(t *testing.T, a, b api.Atom, want int, wantErr api.Errno) {
	t.Helper()
	if got, e := Order(a, b); got != want || e != wantErr {
		t.Errorf("Order(%+v, %+v): %d, %v; want %d, %v", a, b, got, e, want, wantErr)
	}
}

func TestP41Numbers(t *testing.T) {
	for _, c := range []struct {
		a, b string
		want int
	}{
		{"0", "0", 0}, {"2", "2", 0}, {"-2", "-2", 0}, {"1.5", "1.5", 0}, {"1", "2", -1}, {"-1", "-2", 1}, {"-1", "1", -1}, {"9", "10", -1}, {"-9", "-10", 1},
		{"1", "1.5", -1}, {"2", "1.5", 1}, {"-1", "-1.5", 1}, {"-2", "-1.5", -1}, {"1.5", "1.25", 1}, {"0.5", "0.25", 1}, {"0.1", "0.01", 1}, {"-0.1", "-0.01", -1},
		{"0", "0.000000001", -1}, {"0", "-0.000000001", 1}, {"1", "0.999999999", 1}, {"1", "1.000000001", -1},
		{"999999999999999999", "999999999999999998", 1}, {"-999999999999999999", "999999999999999999", -1}, {"999999999999999999", "0.000000001", 1}, {"-999999999999999999", "0.000000001", -1},
		{"999999999999999999", "999999999.999999999", 1}, {"99999999999999999.9", "99999999999999999", 1}, {"99999999999999999.9", "100000000000000000", -1},
	} {
		checkOrder(t, number(t, c.a), number(t, c.b), c.want, api.OK)
		checkOrder(t, number(t, c.b), number(t, c.a), -c.want, api.OK)
	}
	// An Int and a Dec are one kind of number.
	checkOrder(t, atom.Of(2), number(t, "2.0"), 0, api.OK)
	checkOrder(t, number(t, "2"), atom.Of(2), 0, api.OK)
	checkOrder(t, atom.Of(1), number(t, "1.5"), -1, api.OK)
	checkOrder(t, number(t, "-0.5"), atom.Of(0), -1, api.OK)
	checkOrder(t, number(t, "-0.5"), atom.Of(-1), 1, api.OK)
	checkOrder(t, atom.Of(15), number(t, "1.5"), 1, api.OK)
	checkOrder(t, atom.Of(top), number(t, "999999999999999999"), 0, api.OK)
	checkOrder(t, atom.Of(-top), number(t, "-999999999.999999999"), -1, api.OK)
}

func sign(n int) int { return max(-1, min(1, n)) }

func TestP41Texts(t *testing.T) {
	for i, a := range texts {
		for j, b := range texts {
			want := sign(i - j)
			for _, x := range row(atom.Text(a), atom.Raw(a)) {
				for _, y := range row(atom.Text(b), atom.Raw(b)) {
					checkOrder(t, x, y, want, api.OK)
				}
			}
		}
	}
	long := strings.Repeat("é", 100000)
	checkOrder(t, atom.Text(long), atom.Raw(long), 0, api.OK)
	checkOrder(t, atom.Text(long), atom.Raw(long+"a"), -1, api.OK)
	checkOrder(t, atom.Raw(long+"b"), atom.Raw(long+"a"), 1, api.OK)
}

func TestP41Bools(t *testing.T) {
	checkOrder(t, untruth, untruth, 0, api.OK)
	checkOrder(t, untruth, truth, -1, api.OK)
	checkOrder(t, truth, untruth, 1, api.OK)
	checkOrder(t, truth, truth, 0, api.OK)
}

func TestP41KindsWithoutAnOrder(t *testing.T) {
	groups := [][]api.Atom{
		{atom.Of(0), atom.Of(1), number(t, "1"), number(t, "0.5")},
		{atom.Text(""), atom.Text("1"), atom.Raw(""), atom.Raw("1"), atom.Raw("true"), atom.Text("0.5")},
		{untruth, truth},
	}
	for i, as := range groups {
		for j, bs := range groups {
			for _, a := range as {
				for _, b := range bs {
					if _, e := Order(a, b); i != j {
						checkOrder(t, a, b, 0, api.ErrType)
					} else if e != api.OK {
						t.Errorf("Order(%+v, %+v): %v", a, b, e)
					}
				}
			}
		}
	}
}

func TestP41EveryKindBesideEveryKind(t *testing.T) {
	as := rights()
	for _, a := range as {
		for _, b := range as {
			want, e := meant(a, b)
			checkOrder(t, a, b, want, e)
		}
	}
}

func checkValue(t *testing.T, op api.Op, a, b api.Atom, want bool, wantErr api.Errno) {
	t.Helper()
	if got, e := Value(op, a, b); got != want || e != wantErr {
		t.Errorf("Value(%d, %+v, %+v): %v, %v; want %v, %v", op, a, b, got, e, want, wantErr)
	}
}

func TestP42Value(t *testing.T) {
	for order, pairs := range map[int][][2]api.Atom{
		-1: {{atom.Of(1), number(t, "1.5")}, {atom.Of(9), atom.Of(10)}, {number(t, "-0.5"), atom.Of(0)}, {atom.Text("a"), atom.Text("b")}, {atom.Raw("10"), atom.Raw("9")}, {atom.Raw(""), atom.Text("a")}, {atom.Text("a"), atom.Raw("aa")}, {untruth, truth}},
		0:  {{atom.Of(1), atom.Of(1)}, {atom.Of(2), number(t, "2")}, {number(t, "1.5"), number(t, "1.50")}, {atom.Text("a"), atom.Raw("a")}, {atom.Raw(""), atom.Raw("")}, {truth, truth}, {untruth, untruth}},
		1:  {{number(t, "1.5"), atom.Of(1)}, {atom.Of(0), atom.Of(-1)}, {atom.Text("b"), atom.Raw("a")}, {atom.Raw("é"), atom.Raw("z")}, {truth, untruth}},
	} {
		for _, p := range pairs {
			for _, op := range values {
				checkValue(t, op, p[0], p[1], slices.Contains(wanted[order], op), api.OK)
			}
		}
	}
}

func TestP42ErrorOfOrder(t *testing.T) {
	for _, op := range values {
		checkValue(t, op, atom.Of(1), atom.Raw("1"), false, api.ErrType)
		checkValue(t, op, atom.Raw("1"), atom.Of(1), false, api.ErrType)
		checkValue(t, op, number(t, "1.5"), atom.Text("1.5"), false, api.ErrType)
		checkValue(t, op, truth, atom.Raw("true"), false, api.ErrType)
		checkValue(t, op, atom.Raw("1"), truth, false, api.ErrType)
		checkValue(t, op, truth, atom.Of(1), false, api.ErrType)
		checkValue(t, op, untruth, atom.Text(""), false, api.ErrType)
	}
}

func TestP42EveryKindBesideEveryKind(t *testing.T) {
	as := some(t)
	for _, a := range as {
		for _, b := range as {
			order, e := meant(a, b)
			for _, op := range values {
				checkValue(t, op, a, b, e == api.OK && slices.Contains(wanted[order], op), e)
			}
		}
	}
}

// others are the ops but those, and numbers that are no ops.
func others(ops []api.Op) []api.Op {
	rest := []api.Op{-1, 0, api.Ops, 62, 100, 256 + api.VEq, 256 + api.GEq, math.MaxInt, math.MinInt}
	for op := api.Op(1); op < api.Ops; op++ {
		if !slices.Contains(ops, op) {
			rest = append(rest, op)
		}
	}
	return rest
}

func TestP42OtherOps(t *testing.T) {
	for _, op := range others(values) {
		checkValue(t, op, atom.Of(1), atom.Of(1), false, api.ErrArg)
		checkValue(t, op, atom.Of(1), atom.Of(2), false, api.ErrArg)
		checkValue(t, op, atom.Of(2), atom.Of(1), false, api.ErrArg)
		checkValue(t, op, atom.Text("a"), atom.Raw("a"), false, api.ErrArg)
		checkValue(t, op, truth, truth, false, api.ErrArg)
		// ErrArg is named first.
		checkValue(t, op, atom.Of(1), atom.Raw("1"), false, api.ErrArg)
	}
}

func checkGeneral(t *testing.T, op api.Op, as, bs []api.Atom, want bool, wantErr api.Errno) {
	t.Helper()
	if got, e := General(op, as, bs); got != want || e != wantErr {
		t.Errorf("General(%d, %+v, %+v): %v, %v; want %v, %v", op, as, bs, got, e, want, wantErr)
	}
}

func TestP43OnePair(t *testing.T) {
	for order, pairs := range map[int][][2]api.Atom{
		-1: {
			{atom.Of(1), atom.Of(2)}, {atom.Of(1), number(t, "1.5")}, {atom.Text("a"), atom.Text("b")}, {untruth, truth},
			{atom.Of(9), atom.Raw("10")}, {atom.Raw("9"), atom.Of(10)}, {atom.Raw(" 1.4 "), number(t, "1.5")}, {number(t, "1.5"), atom.Raw("+1.6")}, {atom.Raw("-1"), atom.Of(0)},
			{untruth, atom.Raw("1")}, {atom.Raw("0"), truth}, {atom.Raw(" false "), truth}, {atom.Raw("10"), atom.Raw("9")}, {atom.Text("10"), atom.Raw("9")}, {atom.Raw("true"), atom.Raw("x")}, {atom.Raw(""), atom.Raw(" ")},
		},
		0: {
			{atom.Of(2), number(t, "2")}, {atom.Text("a"), atom.Raw("a")}, {truth, truth},
			{atom.Of(1), atom.Raw("1.0")}, {atom.Raw("\t07\n"), atom.Of(7)}, {number(t, "1.5"), atom.Raw("1.50")}, {atom.Raw(".5"), number(t, "0.5")}, {atom.Of(1), atom.Raw("1.0000000001")},
			{truth, atom.Raw("1")}, {atom.Raw("true"), truth}, {atom.Raw(" 0 "), untruth}, {untruth, atom.Raw("false")}, {atom.Raw("1"), atom.Raw("1")}, {atom.Raw("x"), atom.Text("x")},
		},
		1: {
			{atom.Of(2), atom.Of(1)}, {atom.Of(10), atom.Raw("9")}, {atom.Raw("10"), atom.Of(9)}, {atom.Raw("0.000000001"), atom.Of(0)}, {truth, atom.Raw("0")}, {atom.Raw("1"), untruth}, {atom.Raw("9"), atom.Raw("10")}, {atom.Raw("1.0"), atom.Raw("1")},
			{atom.Raw("1.0"), atom.Text("1")}, {truth, untruth},
		},
	} {
		for _, p := range pairs {
			for i, op := range generals {
				checkGeneral(t, op, row(p[0]), row(p[1]), slices.Contains(wanted[order], values[i]), api.OK)
			}
		}
	}
}

// oneError holds all ops to one error of a pair, whichever of both stands first.
func oneError(t *testing.T, a, b api.Atom, e api.Errno) {
	t.Helper()
	for _, op := range generals {
		checkGeneral(t, op, row(a), row(b), false, e)
		checkGeneral(t, op, row(b), row(a), false, e)
	}
}

func TestP43ErrorsOfOnePair(t *testing.T) {
	for _, n := range row(atom.Of(0), atom.Of(1), number(t, "0.5")) {
		for _, s := range []string{"", " ", "x", "true", "false", "1e5", "1 2", "."} {
			oneError(t, n, atom.Raw(s), api.ErrCast)
		}
		for _, s := range []string{"1000000000000000000", "-1000000000000000000.5", strings.Repeat("9", 1000)} {
			oneError(t, n, atom.Raw(s), api.ErrOver)
		}
		for _, s := range []string{"", "1", "0.5"} {
			oneError(t, n, atom.Text(s), api.ErrType)
		}
		oneError(t, n, truth, api.ErrType)
		oneError(t, n, untruth, api.ErrType)
	}
	for _, b := range row(untruth, truth) {
		for _, s := range []string{"", "x", "2", "TRUE", "01", "1.0", "1000000000000000000"} {
			oneError(t, b, atom.Raw(s), api.ErrCast)
		}
		for _, s := range []string{"", "1", "true"} {
			oneError(t, b, atom.Text(s), api.ErrType)
		}
	}
}

func TestP43Empty(t *testing.T) {
	for _, op := range generals {
		for _, none := range [][]api.Atom{nil, {}} {
			checkGeneral(t, op, none, nil, false, api.OK)
			checkGeneral(t, op, none, row(), false, api.OK)
			for _, a := range some(t) {
				checkGeneral(t, op, none, row(a), false, api.OK)
				checkGeneral(t, op, row(a), none, false, api.OK)
				checkGeneral(t, op, none, row(a, atom.Of(1), atom.Raw("x"), truth), false, api.OK)
				checkGeneral(t, op, row(a, atom.Of(1), atom.Raw("x"), truth), none, false, api.OK)
			}
		}
	}
}

func TestP43Several(t *testing.T) {
	one, two, three := atom.Of(1), atom.Of(2), atom.Of(3)
	checkGeneral(t, api.GEq, row(one, two), row(atom.Raw("2")), true, api.OK)
	checkGeneral(t, api.GEq, row(one, two), row(three), false, api.OK)
	checkGeneral(t, api.GEq, row(one, two), row(three, atom.Raw("4"), number(t, "1.5")), false, api.OK)
	checkGeneral(t, api.GNe, row(one, one), row(one, number(t, "1"), atom.Raw("1")), false, api.OK)
	checkGeneral(t, api.GNe, row(one, one), row(one, two), true, api.OK)
	checkGeneral(t, api.GEq, row(one, two), row(two, one), true, api.OK)
	checkGeneral(t, api.GNe, row(one, two), row(one, two), true, api.OK)
	checkGeneral(t, api.GLt, row(two, three), row(one, two), false, api.OK)
	checkGeneral(t, api.GLt, row(three, one), row(one, two), true, api.OK)
	checkGeneral(t, api.GLe, row(two, three), row(one, two), true, api.OK)
	checkGeneral(t, api.GGt, row(one, two), row(two, three), false, api.OK)
	checkGeneral(t, api.GGe, row(one, two), row(two, three), true, api.OK)
	// Each pair has its own casts: the same Untyped counts as a number, as a truth and as itself.
	checkGeneral(t, api.GEq, row(atom.Raw("1")), row(two, untruth, atom.Text("1.0"), atom.Raw("01")), false, api.OK)
	checkGeneral(t, api.GEq, row(atom.Raw("1")), row(two, untruth, atom.Text("1")), true, api.OK)
	checkGeneral(t, api.GEq, row(two, untruth, atom.Text("x")), row(atom.Raw("1")), false, api.OK)
}

func TestP43WhatEndsIt(t *testing.T) {
	one, two, x, text, over := atom.Of(1), atom.Of(2), atom.Raw("x"), atom.Text("1"), atom.Raw(strings.Repeat("9", 30))
	// An error behind a true pair isn't come to; one ahead of it ends all.
	checkGeneral(t, api.GEq, row(one), row(one, x), true, api.OK)
	checkGeneral(t, api.GEq, row(one), row(x, one), false, api.ErrCast)
	checkGeneral(t, api.GEq, row(one), row(two, x, one), false, api.ErrCast)
	checkGeneral(t, api.GEq, row(one, x), row(one), true, api.OK)
	checkGeneral(t, api.GEq, row(x, one), row(one), false, api.ErrCast)
	checkGeneral(t, api.GEq, row(two, x), row(one), false, api.ErrCast)
	checkGeneral(t, api.GEq, row(one), row(one, text), true, api.OK)
	checkGeneral(t, api.GEq, row(one), row(text, one), false, api.ErrType)
	checkGeneral(t, api.GEq, row(one), row(one, over), true, api.OK)
	checkGeneral(t, api.GEq, row(one), row(over, one), false, api.ErrOver)
	// Of several errors the first that comes.
	checkGeneral(t, api.GEq, row(two), row(one, x, text, over), false, api.ErrCast)
	checkGeneral(t, api.GEq, row(two), row(text, x, over), false, api.ErrType)
	checkGeneral(t, api.GEq, row(two), row(over, text, x), false, api.ErrOver)
	checkGeneral(t, api.GEq, row(x, text), row(one), false, api.ErrCast)
	checkGeneral(t, api.GEq, row(text, x), row(one), false, api.ErrType)
	// The first of as meets all of bs ahead of the second: with one it comes to x first, with two it is true first.
	checkGeneral(t, api.GEq, row(two, one), row(one, x), false, api.ErrCast)
	checkGeneral(t, api.GEq, row(one, x), row(two, one), true, api.OK)
	checkGeneral(t, api.GEq, row(one, text), row(two, one), true, api.OK)
	checkGeneral(t, api.GEq, row(one, text), row(two, x), false, api.ErrCast)
	checkGeneral(t, api.GEq, row(one, x), row(two, text), false, api.ErrType)
	checkGeneral(t, api.GEq, row(x, one), row(atom.Raw("y"), one), false, api.ErrCast)
	checkGeneral(t, api.GEq, row(x, one), row(x, one), true, api.OK)
}

// fates are what comes of a pair by GLt: the first Atoms against the others. The chapter's words, worked out by hand.
func fates(t *testing.T) ([]api.Atom, []api.Atom, [][]string) {
	as := row(atom.Of(1), atom.Raw("1"), atom.Text("1"), truth, atom.Raw("x"))
	bs := row(atom.Of(1), number(t, "1.5"), atom.Raw("2"), atom.Raw("y"), atom.Text("2"), truth)
	return as, bs, [][]string{
		{"no", "yes", "yes", "cast", "type", "type"},
		{"no", "yes", "yes", "yes", "yes", "no"},
		{"type", "type", "yes", "yes", "yes", "type"},
		{"type", "type", "cast", "cast", "type", "no"},
		{"cast", "cast", "no", "yes", "no", "cast"},
	}
}

// TestP43TheOrderOfPairs takes all rows of one to three of the one list beside all of the other.
func TestP43TheOrderOfPairs(t *testing.T) {
	as, bs, told := fates(t)
	ends := map[string]api.Errno{"yes": api.OK, "cast": api.ErrCast, "type": api.ErrType}
	for _, left := range rows(len(as)) {
		for _, right := range rows(len(bs)) {
			want := "no"
			for _, i := range left {
				for _, j := range right {
					if want == "no" {
						want = told[i][j]
					}
				}
			}
			checkGeneral(t, api.GLt, picked(as, left), picked(bs, right), want == "yes", ends[want])
		}
	}
}

// rows are all rows of one to three places below n.
func rows(n int) [][]int {
	var all [][]int
	for i := range n {
		all = append(all, []int{i})
		for j := range n {
			all = append(all, []int{i, j})
			for k := range n {
				all = append(all, []int{i, j, k})
			}
		}
	}
	return all
}

func picked(as []api.Atom, places []int) []api.Atom {
	var some []api.Atom
	for _, at := range places {
		some = append(some, as[at])
	}
	return some
}

// cast is what the chapter makes of an a beside b.
func cast(a, b api.Atom) (api.Atom, api.Errno) {
	to := map[api.AtomKind]api.AtomKind{api.Int: api.Dec, api.Dec: api.Dec, api.Bool: api.Bool}[b.Kind]
	if a.Kind != api.Untyped || to == 0 {
		return a, api.OK
	}
	return atom.Cast(a, to)
}

func TestP43EveryKindBesideEveryKind(t *testing.T) {
	as := append(some(t), atom.Raw("1000000000000000000"), atom.Raw(" 1.50 "), atom.Raw("-0.5"), atom.Raw("true "), atom.Raw("1.0000000001"))
	for _, a := range as {
		for _, b := range as {
			x, e := cast(a, b)
			y, f := cast(b, a)
			order, g := meant(x, y)
			// An a that is cast is Untyped, and the b beside it isn't: of both casts one alone can fail.
			err := max(e, f)
			if err == api.OK {
				err = g
			}
			for i, op := range generals {
				checkGeneral(t, op, row(a), row(b), err == api.OK && slices.Contains(wanted[order], values[i]), err)
			}
		}
	}
}

func TestP43OtherOps(t *testing.T) {
	for _, op := range others(generals) {
		checkGeneral(t, op, row(atom.Of(1)), row(atom.Of(1)), false, api.ErrArg)
		checkGeneral(t, op, row(atom.Of(1)), row(atom.Of(2)), false, api.ErrArg)
		checkGeneral(t, op, row(atom.Of(2)), row(atom.Of(1)), false, api.ErrArg)
		// ErrArg is named first, and needs no pair.
		checkGeneral(t, op, nil, nil, false, api.ErrArg)
		checkGeneral(t, op, nil, row(atom.Of(1)), false, api.ErrArg)
		checkGeneral(t, op, row(atom.Of(1)), row(atom.Raw("x")), false, api.ErrArg)
		checkGeneral(t, op, row(atom.Of(1)), row(truth), false, api.ErrArg)
	}
}

func TestP43WhatIsHandedInStays(t *testing.T) {
	as, bs := row(atom.Raw("1"), atom.Raw("0"), atom.Of(3)), row(atom.Of(2), untruth, atom.Raw("4"), truth)
	before, behind := slices.Clone(as), slices.Clone(bs)
	for _, op := range generals {
		General(op, as, bs[:3])
	}
	if !slices.Equal(as, before) || !slices.Equal(bs, behind) {
		t.Errorf("General changed its lists: %+v, %+v", as, bs)
	}
}

func TestP43LongLists(t *testing.T) {
	as, bs := make([]api.Atom, api.MaxItems), make([]api.Atom, api.MaxItems)
	for i := range as {
		as[i], bs[i] = atom.Of(i), atom.Raw("-1.5")
	}
	checkGeneral(t, api.GEq, as, bs, false, api.OK)
	bs[len(bs)-1] = atom.Of(len(as) - 1)
	checkGeneral(t, api.GEq, as, bs, true, api.OK)
	bs[len(bs)-1] = truth
	checkGeneral(t, api.GEq, as, bs, false, api.ErrType)
}

func checkTruth(t *testing.T, first bool, as []api.Atom, want bool, wantErr api.Errno) {
	t.Helper()
	if got, e := Truth(first, as...); got != want || e != wantErr {
		t.Errorf("Truth(%v, %+v): %v, %v; want %v, %v", first, as, got, e, want, wantErr)
	}
}

func TestP44NodeFirst(t *testing.T) {
	checkTruth(t, true, nil, true, api.OK)
	checkTruth(t, true, row(untruth, untruth), true, api.OK)
	checkTruth(t, true, row(atom.Text(""), atom.Of(0), truth), true, api.OK)
	for _, a := range some(t) {
		checkTruth(t, true, row(a), true, api.OK)
		checkTruth(t, true, row(a, a), true, api.OK)
	}
}

func TestP44None(t *testing.T) {
	checkTruth(t, false, nil, false, api.OK)
	checkTruth(t, false, row(), false, api.OK)
}

func TestP44One(t *testing.T) {
	for _, a := range row(untruth, atom.Text(""), atom.Raw(""), atom.Of(0), number(t, "0"), number(t, "-0.0"), number(t, "0.0000000009")) {
		checkTruth(t, false, row(a), false, api.OK)
	}
	for _, a := range row(truth, atom.Of(1), atom.Of(-1), atom.Of(top), atom.Of(-top), number(t, "1"), number(t, "-1"), number(t, "0.5"), number(t, "-0.5"), number(t, "0.000000001"), number(t, "-0.000000001"), number(t, "999999999.999999999")) {
		checkTruth(t, false, row(a), true, api.OK)
	}
	for _, s := range []string{" ", "\n", "0", "0.0", "false", "a", "true", "é", "\ufffd"} {
		checkTruth(t, false, row(atom.Text(s)), true, api.OK)
		checkTruth(t, false, row(atom.Raw(s)), true, api.OK)
	}
	// A 0 with a Scale is not right, but 0.
	for scale := range api.MaxScale + 1 {
		checkTruth(t, false, row(api.Atom{Kind: api.Dec, Scale: scale}), false, api.OK)
	}
}

func TestP44Several(t *testing.T) {
	for _, a := range some(t) {
		for _, b := range some(t) {
			checkTruth(t, false, row(a, b), false, api.ErrBool)
			checkTruth(t, false, row(a, b, a), false, api.ErrBool)
		}
	}
}

func TestP45Equal(t *testing.T) {
	for _, c := range []struct {
		a, b api.Atom
		want bool
	}{
		{atom.Of(2), atom.Of(2), true}, {atom.Of(2), number(t, "2"), true}, {number(t, "1.5"), number(t, "1.50"), true}, {atom.Of(0), number(t, "-0.0"), true}, {atom.Text("a"), atom.Raw("a"), true}, {atom.Text(""), atom.Raw(""), true}, {truth, truth, true}, {untruth, untruth, true},
		{atom.Of(1), atom.Of(2), false}, {atom.Of(2), atom.Of(1), false}, {atom.Of(15), number(t, "1.5"), false}, {number(t, "1.5"), number(t, "0.15"), false}, {atom.Text("a"), atom.Text("A"), false}, {atom.Raw("a"), atom.Raw("a "), false}, {atom.Raw("1"), atom.Raw("1.0"), false}, {truth, untruth, false}, {untruth, truth, false},
		{atom.Of(2), atom.Text("2"), false}, {atom.Of(2), atom.Raw("2"), false}, {atom.Raw("true"), truth, false}, {atom.Text("true"), truth, false}, {atom.Of(0), untruth, false}, {atom.Of(1), truth, false}, {number(t, "1"), truth, false}, {atom.Text(""), atom.Of(0), false}, {untruth, atom.Raw(""), false},
	} {
		if Equal(c.a, c.b) != c.want || Equal(c.b, c.a) != c.want {
			t.Errorf("Equal(%+v, %+v): %v", c.a, c.b, !c.want)
		}
	}
}

func TestP45EqualIsByOrder(t *testing.T) {
	as := rights()
	for _, a := range as {
		if !Equal(a, a) {
			t.Errorf("Equal(%+v, %+v): false", a, a)
		}
		for _, b := range as {
			order, e := meant(a, b)
			if got := Equal(a, b); got != (order == 0 && e == api.OK) {
				t.Errorf("Equal(%+v, %+v): %v", a, b, got)
			}
		}
	}
}

func TestP45TurnedRound(t *testing.T) {
	as := rights()
	for _, a := range as {
		for _, b := range as {
			order, e := Order(a, b)
			checkOrder(t, b, a, -order, e)
		}
	}
}

func TestP45ByAThird(t *testing.T) {
	as := some(t)
	for _, a := range as {
		for _, b := range as {
			first, e := Order(a, b)
			if e != api.OK {
				continue
			}
			for _, c := range as {
				// Below or the same and below again is below; the same twice is the same.
				if second, e := Order(b, c); e == api.OK && first <= 0 && second <= 0 {
					checkOrder(t, a, c, min(first, second), api.OK)
				}
			}
		}
	}
}

// TestP41WrongValuesEnd takes all the calls: the chapter promises no more of these values.
func TestP41WrongValuesEnd(t *testing.T) {
	as := wrongs()
	for _, a := range as {
		Truth(false, a)
		Truth(true, a)
		for _, b := range append(as, some(t)...) {
			Order(a, b)
			Order(b, a)
			Equal(a, b)
			for i, op := range generals {
				Value(values[i], a, b)
				Value(values[i], b, a)
				General(op, row(a), row(b))
				General(op, row(b), row(a))
			}
		}
	}
}
