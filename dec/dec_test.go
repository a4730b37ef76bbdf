package dec

import (
	"math"
	"math/big"
	"slices"
	"strings"
	"testing"

	"espalier/api"
)

const top = 999999999999999999

// wrong are numbers that aren't right.
var wrong = []Num{
	{top + 1, 0}, {-top - 1, 0}, {math.MaxInt, 0}, {math.MinInt, 0}, {1, -1}, {1, 10}, {0, 1}, {0, 9}, {10, 1}, {-150, 2},
	{1, math.MaxInt}, {1, math.MinInt}, {math.MinInt, math.MinInt}, {math.MaxInt, math.MaxInt}, {0, -1}, {0, 10},
}

// edges are right numbers: at each scale the greatest and the least, halves, powers of ten, 0 and what stands beside them.
func edges() []Num {
	var as []Num
	for scale := range api.MaxScale + 1 {
		ns := []int{1, 2, 3, 5, 7, 9, 11, 15, 25, 49, 51, 99, 101, top, top - 1, top / 2, top / 3, 333333333, 999999999, 1000000001}
		p := 1
		for range 18 {
			ns = append(ns, p, p+1, p-1, 5*p/10, 25*p/10)
			p *= 10
		}
		for _, n := range ns {
			for _, a := range []Num{{n, scale}, {-n, scale}} {
				if isRight(a) {
					as = append(as, a)
				}
			}
		}
	}
	slices.SortFunc(as, func(a, b Num) int { return value(a).Cmp(value(b)) })
	return slices.Compact(as)
}

func ten(n int) *big.Int {
	return new(big.Int).Exp(big.NewInt(10), big.NewInt(int64(n)), nil)
}

func value(a Num) *big.Rat {
	return new(big.Rat).SetFrac(big.NewInt(int64(a.N)), ten(a.Scale))
}

func isRight(a Num) bool {
	return a.N >= -top && a.N <= top && a.Scale >= 0 && a.Scale <= 9 && (a.Scale == 0 || a.N%10 != 0)
}

// fitted is what the chapter's 'to fit' says, by big numbers.
func fitted(v *big.Rat) (Num, api.Errno) {
	n := new(big.Int).Mul(v.Num(), ten(9))
	n.Quo(n, v.Denom())
	scale := 9
	for scale > 0 {
		tenth, digit := new(big.Int).QuoRem(n, big.NewInt(10), new(big.Int))
		if digit.Sign() != 0 {
			break
		}
		n, scale = tenth, scale-1
	}
	if n.CmpAbs(big.NewInt(top)) > 0 {
		return Num{}, api.ErrOver
	}
	return Num{int(n.Int64()), scale}, api.OK
}

func whole(v *big.Rat) *big.Rat {
	return new(big.Rat).SetInt(new(big.Int).Quo(v.Num(), v.Denom()))
}

func num(t *testing.T, s string) Num {
	t.Helper()
	a, e := Parse(s)
	if e != api.OK {
		t.Fatalf("Parse(%q): %v", s, e)
	}
	return a
}

func TestP21Right(t *testing.T) {
	as := edges()
	if !Right() || !Right(as...) {
		t.Error("Right: false")
	}
	for _, a := range as {
		if !Right(a) {
			t.Errorf("Right(%v): false", a)
		}
	}
	for _, a := range wrong {
		if Right(a) || Right(as[0], a) || Right(a, as[0]) {
			t.Errorf("Right(%v): true", a)
		}
	}
	for scale := -2; scale < 12; scale++ {
		for n := -30; n <= 30; n++ {
			if a := (Num{n, scale}); Right(a) != isRight(a) {
				t.Errorf("Right(%v): %v", a, Right(a))
			}
		}
		for _, n := range []int{top, top + 1, top - 9, -top, -top - 1, -top + 9} {
			if a := (Num{n, scale}); Right(a) != isRight(a) {
				t.Errorf("Right(%v): %v", a, Right(a))
			}
		}
	}
}

func TestP21Make(t *testing.T) {
	ns := []int{0, 1, -1, 10, 150, 1500, 1000000000, 1000000001, -1000000000, top, -top, top + 1, -top - 1, top + 2, 1000000000000000010, 9223372036854775800, math.MaxInt, math.MinInt, math.MinInt + 8}
	for _, n := range ns {
		for scale := range 10 {
			want, wantErr := fitted(value(Num{n, scale}))
			if a, e := Make(n, scale); a != want || e != wantErr {
				t.Errorf("Make(%d, %d): %v, %v; want %v, %v", n, scale, a, e, want, wantErr)
			}
		}
		for _, scale := range []int{-1, 10, math.MinInt, math.MaxInt} {
			if a, e := Make(n, scale); a != (Num{}) || e != api.ErrArg {
				t.Errorf("Make(%d, %d): %v, %v", n, scale, a, e)
			}
		}
	}
	for _, a := range edges() {
		if b, e := Make(a.N, a.Scale); a != b || e != api.OK {
			t.Errorf("Make of %v: %v, %v", a, b, e)
		}
	}
}

func TestP22Parse(t *testing.T) {
	for s, want := range map[string]Num{
		"1.50": {15, 1}, "-.5": {-5, 1}, "+.5": {5, 1}, "1.0000000009": {1, 0}, "-1.0000000009": {-1, 0}, "0": {}, "-0": {}, "+0": {}, "00": {}, "0.": {}, ".0": {}, "-.0": {},
		"+007": {7, 0}, "5.": {5, 0}, "-5.": {-5, 0}, "10": {10, 0}, "1000": {1000, 0}, "10.10": {101, 1}, "0.000000001": {1, 9}, "0.0000000019": {1, 9}, "0.0000000009": {}, "-0.0000000009": {},
		"999999999999999999": {top, 0}, "-999999999999999999": {-top, 0}, "999999999999999999.0": {top, 0}, "999999999999999999.0000000009": {top, 0}, "999999999.9999999999": {top, 9},
		"99999999999999999.9": {top, 1}, "100000000000000000.0": {100000000000000000, 0}, "123456789.123456789": {123456789123456789, 9},
		strings.Repeat("0", 1000) + "12." + "5" + strings.Repeat("0", 1000):                        {125, 1},
		"." + strings.Repeat("9", 100000):                                                          {999999999, 9},
		"-" + strings.Repeat("0", 100000) + strings.Repeat("9", 18) + "." + strings.Repeat("0", 9): {-top, 0},
	} {
		if a, e := Parse(s); a != want || e != api.OK {
			t.Errorf("Parse(%.40q): %v, %v; want %v", s, a, e, want)
		}
	}
}

func TestP22ParseErrors(t *testing.T) {
	for s, want := range map[string]api.Errno{
		"": api.ErrForm, ".": api.ErrForm, "+": api.ErrForm, "-": api.ErrForm, "+.": api.ErrForm, "-.": api.ErrForm, "--1": api.ErrForm, "+-1": api.ErrForm, "-+1": api.ErrForm, "1-": api.ErrForm, "1e5": api.ErrForm,
		"1.2.3": api.ErrForm, "..1": api.ErrForm, "1..": api.ErrForm, " 1": api.ErrForm, "1 ": api.ErrForm, "1. 5": api.ErrForm, "1,5": api.ErrForm, "1_000": api.ErrForm, "0x1": api.ErrForm, "a": api.ErrForm, "\u0661": api.ErrForm,
		"1/2": api.ErrForm, "1:": api.ErrForm, "1\xff": api.ErrForm, "1\x00": api.ErrForm, "NaN": api.ErrForm, "+1.-5": api.ErrForm,
		strings.Repeat("9", 100000) + "x": api.ErrForm, strings.Repeat("9", 100000) + ".5x": api.ErrForm,
		"1000000000000000000": api.ErrOver, "-1000000000000000000": api.ErrOver, "1000000000000000000.": api.ErrOver, "999999999999999999.1": api.ErrOver, "999999999999999999.000000001": api.ErrOver, "1000000000.000000001": api.ErrOver,
		"-1000000000.000000001": api.ErrOver, "100000000000000000.1": api.ErrOver, strings.Repeat("9", 100000): api.ErrOver, "-" + strings.Repeat("1", 40) + ".": api.ErrOver,
		// These are 0 and 10 to the power 18, if numbers of 64 bits run over.
		"18446744073709551616": api.ErrOver, "340282366920938463463374607431768211456": api.ErrOver, "18446744073709551617.5": api.ErrOver,
	} {
		if a, e := Parse(s); a != (Num{}) || e != want {
			t.Errorf("Parse(%.40q): %v, %v; want %v", s, a, e, want)
		}
	}
}

func TestP22Format(t *testing.T) {
	for want, a := range map[string]Num{
		"-0.5": {-5, 1}, "0.5": {5, 1}, "12": {12, 0}, "0": {}, "3.14": {314, 2}, "-100.000000001": {-100000000001, 9}, "0.000000001": {1, 9}, "-0.000000001": {-1, 9}, "1000": {1000, 0},
		"999999999.999999999": {top, 9}, "-999999999.999999999": {-top, 9}, "999999999999999999": {top, 0}, "-999999999999999999": {-top, 0}, "0.10": {10, 2}, "0.0": {0, 1},
		"-9223372036854775808": {math.MinInt, 0}, "-9223372036.854775808": {math.MinInt, 9}, "0.000000000012": {12, 12}, "1.2": {12, 1}, "0.12": {12, 2}, "0.012": {12, 3},
	} {
		if got := Format(a); got != want {
			t.Errorf("Format(%v): %q; want %q", a, got, want)
		}
	}
	for _, a := range wrong {
		Format(a)
	}
}

type call struct {
	name string
	do   func(a, b Num) (Num, api.Errno)
	want func(x, y *big.Rat) (Num, api.Errno)
}

var zero = new(big.Rat)

func calls() []call {
	return []call{
		{"Add", Add, func(x, y *big.Rat) (Num, api.Errno) { return fitted(new(big.Rat).Add(x, y)) }},
		{"Sub", Sub, func(x, y *big.Rat) (Num, api.Errno) { return fitted(new(big.Rat).Sub(x, y)) }},
		{"Mul", Mul, func(x, y *big.Rat) (Num, api.Errno) { return fitted(new(big.Rat).Mul(x, y)) }},
		{"Div", Div, func(x, y *big.Rat) (Num, api.Errno) {
			if y.Sign() == 0 {
				return Num{}, api.ErrZero
			}
			return fitted(new(big.Rat).Quo(x, y))
		}},
		{"IDiv", IDiv, func(x, y *big.Rat) (Num, api.Errno) {
			if y.Sign() == 0 {
				return Num{}, api.ErrZero
			}
			return fitted(whole(new(big.Rat).Quo(x, y)))
		}},
		{"Mod", Mod, func(x, y *big.Rat) (Num, api.Errno) {
			if y.Sign() == 0 {
				return Num{}, api.ErrZero
			}
			times := whole(new(big.Rat).Quo(x, y))
			return fitted(new(big.Rat).Sub(x, times.Mul(times, y)))
		}},
	}
}

func check(t *testing.T, c call, a, b Num) {
	t.Helper()
	want, wantErr := c.want(value(a), value(b))
	if got, e := c.do(a, b); got != want || e != wantErr {
		t.Errorf("%s(%v, %v): %v, %v; want %v, %v", c.name, a, b, got, e, want, wantErr)
	}
}

func TestP23Edges(t *testing.T) {
	as := edges()
	for _, c := range calls() {
		// Each with each is too many to wait for: each row with another stride of the others.
		for i, a := range as {
			for j := i % 7; j < len(as); j += 7 {
				check(t, c, a, as[j])
			}
			check(t, c, a, Num{})
			check(t, c, Num{}, a)
			check(t, c, a, a)
			check(t, c, a, Num{-a.N, a.Scale})
		}
	}
}

func TestP23ManyNumbers(t *testing.T) {
	seed := uint64(1)
	next := func() Num {
		for {
			seed = seed*6364136223846793005 + 1442695040888963407
			n := int(seed>>3) % (top + 1)
			for range seed >> 40 % 19 {
				n /= 10
			}
			if a := (Num{n * (1 - 2*int(seed>>33&1)), int(seed>>35) % 10}); isRight(a) {
				return a
			}
		}
	}
	for range 20000 {
		a, b := next(), next()
		for _, c := range calls() {
			check(t, c, a, b)
		}
	}
}

func TestP23Named(t *testing.T) {
	for _, c := range []struct {
		do         func(a, b Num) (Num, api.Errno)
		a, b, want string
		e          api.Errno
	}{
		{Div, "1", "3", "0.333333333", api.OK}, {Div, "-1", "3", "-0.333333333", api.OK}, {Div, "2", "-3", "-0.666666666", api.OK}, {Div, "1", "999999999999999999", "0", api.OK},
		{Div, "0", "0", "0", api.ErrZero}, {IDiv, "0", "0", "0", api.ErrZero}, {Mod, "0", "0", "0", api.ErrZero}, {Mod, "-7", "2", "-1", api.OK}, {Mod, "7", "-2", "1", api.OK}, {Mod, "-7", "-2", "-1", api.OK},
		{IDiv, "7.5", "2", "3", api.OK}, {IDiv, "-7.5", "2", "-3", api.OK}, {IDiv, "0.000000001", "999999999999999999", "0", api.OK},
		{Mul, "999999999", "1000000001", "999999999999999999", api.OK}, {Mul, "1000000000", "1000000000", "0", api.ErrOver}, {Mul, "999999999.999999999", "999999999.999999999", "999999999999999998", api.OK}, {Mul, "1000000000.1", "999999999.9", "0", api.ErrOver},
		{Mul, "0.000000001", "0.999999999", "0", api.OK}, {Mul, "-0.00001", "0.00019", "-0.000000001", api.OK},
		{Div, "999999999999999999", "0.1", "0", api.ErrOver}, {Div, "99999999999999999.9", "0.1", "999999999999999999", api.OK}, {Div, "999999999999999999", "0.000000001", "0", api.ErrOver},
		{Mod, "999999999999999999", "0.000000002", "0", api.OK},
		{Add, "999999999999999998", "1", "999999999999999999", api.OK}, {Add, "999999999999999999", "0.000000001", "0", api.ErrOver}, {Sub, "-999999999999999999", "1", "0", api.ErrOver},
		{Add, "0.5", "0.5", "1", api.OK}, {Add, "9.5", "0.5", "10", api.OK}, {Sub, "0.5", "0.5", "0", api.OK},
	} {
		got, e := c.do(num(t, c.a), num(t, c.b))
		if Format(got) != c.want || e != c.e {
			t.Errorf("%s, %s: %v, %v; want %s, %v", c.a, c.b, got, e, c.want, c.e)
		}
	}
}

func TestP23WrongNumbersEnd(t *testing.T) {
	others := append(slices.Clone(wrong), Num{}, Num{1, 0}, Num{top, 9})
	for _, a := range wrong {
		for _, b := range others {
			for _, c := range calls() {
				c.do(a, b)
				c.do(b, a)
			}
			Cmp(a, b)
			Cmp(b, a)
			Sum(a, b)
			Sum(b, a)
		}
		Floor(a)
		Ceil(a)
		Round(a)
	}
}

func TestP24Cmp(t *testing.T) {
	as := edges()
	for i, a := range as {
		for j := i % 3; j < len(as); j += 3 {
			if got, want := Cmp(a, as[j]), value(a).Cmp(value(as[j])); got != want {
				t.Errorf("Cmp(%v, %v): %d", a, as[j], got)
			}
		}
		if Cmp(a, a) != 0 {
			t.Errorf("Cmp(%v, %v): not 0", a, a)
		}
	}
}

func TestP24Sum(t *testing.T) {
	big, half, low := Num{top, 0}, Num{5, 1}, Num{-1, 0}
	for _, c := range []struct {
		ns   []Num
		want Num
		e    api.Errno
	}{
		{nil, Num{}, api.OK}, {[]Num{}, Num{}, api.OK}, {[]Num{half}, half, api.OK}, {[]Num{half, half, half}, Num{15, 1}, api.OK}, {[]Num{low, half}, Num{-5, 1}, api.OK}, {[]Num{half, {-5, 1}}, Num{}, api.OK},
		{[]Num{big}, big, api.OK}, {[]Num{big, low, {1, 0}}, big, api.OK},
		// The sum so far doesn't fit, though the whole sum would.
		{[]Num{big, {1, 0}, low}, Num{}, api.ErrOver}, {[]Num{big, half, {-5, 1}}, Num{}, api.ErrOver}, {[]Num{{-top, 0}, low, big}, Num{}, api.ErrOver},
	} {
		kept := slices.Clone(c.ns)
		if got, e := Sum(c.ns...); got != c.want || e != c.e {
			t.Errorf("Sum(%v): %v, %v", c.ns, got, e)
		}
		if !slices.Equal(kept, c.ns) {
			t.Errorf("Sum has changed %v to %v", kept, c.ns)
		}
	}
}

func TestP24Wholes(t *testing.T) {
	for s, want := range map[string][3]string{
		"2.5": {"2", "3", "3"}, "-2.5": {"-3", "-2", "-2"}, "0.5": {"0", "1", "1"}, "-0.5": {"-1", "0", "0"}, "2.4": {"2", "3", "2"}, "-2.4": {"-3", "-2", "-2"}, "2.6": {"2", "3", "3"}, "-2.6": {"-3", "-2", "-3"},
		"2.499999999": {"2", "3", "2"}, "2.500000001": {"2", "3", "3"}, "-2.499999999": {"-3", "-2", "-2"}, "-2.500000001": {"-3", "-2", "-3"}, "0": {"0", "0", "0"}, "7": {"7", "7", "7"}, "-7": {"-7", "-7", "-7"},
		"10": {"10", "10", "10"}, "9.9": {"9", "10", "10"}, "-0.000000001": {"-1", "0", "0"}, "0.000000001": {"0", "1", "0"},
		"999999999.999999999": {"999999999", "1000000000", "1000000000"}, "-999999999.999999999": {"-1000000000", "-999999999", "-1000000000"}, "999999999999999999": {"999999999999999999", "999999999999999999", "999999999999999999"},
		"-999999999999999999": {"-999999999999999999", "-999999999999999999", "-999999999999999999"},
	} {
		a := num(t, s)
		if got := [3]string{Format(Floor(a)), Format(Ceil(a)), Format(Round(a))}; got != want {
			t.Errorf("%s: %v; want %v", s, got, want)
		}
	}
}

func TestP24WholesOfEdges(t *testing.T) {
	half := big.NewRat(1, 2)
	for _, a := range edges() {
		v := value(a)
		down := new(big.Int).Div(v.Num(), v.Denom())
		up := new(big.Int).Neg(new(big.Int).Div(new(big.Int).Neg(v.Num()), v.Denom()))
		near := new(big.Rat).Add(v, half)
		if got := Floor(a); got != (Num{int(down.Int64()), 0}) {
			t.Errorf("Floor(%v): %v", a, got)
		}
		if got := Ceil(a); got != (Num{int(up.Int64()), 0}) {
			t.Errorf("Ceil(%v): %v", a, got)
		}
		if got := Round(a); got != (Num{int(new(big.Int).Div(near.Num(), near.Denom()).Int64()), 0}) {
			t.Errorf("Round(%v): %v", a, got)
		}
	}
}

func TestP25ThereAndBack(t *testing.T) {
	for _, a := range edges() {
		if b, e := Parse(Format(a)); a != b || e != api.OK {
			t.Errorf("Parse of %s: %v, %v", Format(a), b, e)
		}
	}
}

func TestP25BothWays(t *testing.T) {
	as := edges()
	for i, a := range as {
		for j := i % 5; j < len(as); j += 5 {
			x, e := Add(a, as[j])
			if y, f := Add(as[j], a); x != y || e != f {
				t.Errorf("Add(%v, %v): %v, %v and %v, %v", a, as[j], x, e, y, f)
			}
			x, e = Sum(a, as[j])
			if y, f := Sum(as[j], a); x != y || e != f {
				t.Errorf("Sum(%v, %v): %v, %v and %v, %v", a, as[j], x, e, y, f)
			}
		}
	}
}
