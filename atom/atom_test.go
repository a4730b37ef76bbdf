package atom

import (
	"math"
	"math/big"
	"regexp"
	"slices"
	"strings"
	"testing"

	"espalier/api"
	"espalier/dec"
)

const top = 999999999999999999

var (
	kinds   = []api.AtomKind{api.Int, api.Dec, api.Str, api.Bool, api.Untyped}
	noKinds = []api.AtomKind{0, 6, -1, 7, 9, 255, math.MaxInt, math.MinInt}
)

// texts are valid ones: what numbers and truths look like, and what comes near them.
var texts = []string{
	"", " ", "7", " 7 ", "\t\n\r -7\r\n", "+7", "-0", "007", "7.", ".5", "-.5", "7.0", "1.50", "1.0000000009", ".", "+", "-", "+-1", "--1", "1 2", "- 1", "1e5", "0x10", "1_0", "NaN",
	"true", "false", " true ", "1", "0", "TRUE", "True", "yes", "t", "00", "01", "+1", "-1", "1.0", "true false", "a", "é", "a  b", " a ", "\u00a07\u00a0", "\u20287", "\u0667", "７", "<&>\"", "\U0001F600", "\ufffd",
	"999999999999999999", "-999999999999999999", "1000000000000000000", "999999999999999999.5", "999999999.999999999", "9999999999.999999999", "18446744073709551617",
}

// nums are right numbers: the greatest and the least of each Scale, what stands beside them, and small ones.
func nums() []dec.Num {
	ns := []dec.Num{{}, {N: 10}, {N: 100}, {N: top}, {N: -top}, {N: top - 9}, {N: 1000000000}}
	for scale := range api.MaxScale + 1 {
		for _, n := range []int{1, 5, 9, 11, 999999999, 1000000001, top, top - 1} {
			ns = append(ns, dec.Num{N: n, Scale: scale}, dec.Num{N: -n, Scale: scale})
		}
	}
	return ns
}

// rights are right values of every kind.
func rights() []api.Atom {
	as := []api.Atom{{Kind: api.Bool}, {Kind: api.Bool, B: true}}
	for _, n := range nums() {
		as = append(as, api.Atom{Kind: api.Dec, N: n.N, Scale: n.Scale})
		if n.Scale == 0 {
			as = append(as, api.Atom{Kind: api.Int, N: n.N})
		}
	}
	for _, s := range texts {
		as = append(as, api.Atom{Kind: api.Str, S: s}, api.Atom{Kind: api.Untyped, S: s})
	}
	return as
}

// wrongs are values that aren't right, each by one field.
func wrongs() []api.Atom {
	var as []api.Atom
	for _, kind := range noKinds {
		as = append(as, api.Atom{Kind: kind}, api.Atom{Kind: kind, N: 1}, api.Atom{Kind: kind, S: "1"}, api.Atom{Kind: kind, B: true})
	}
	for _, n := range []int{top + 1, -top - 1, math.MaxInt, math.MinInt} {
		as = append(as, api.Atom{Kind: api.Int, N: n}, api.Atom{Kind: api.Dec, N: n}, api.Atom{Kind: api.Dec, N: n, Scale: 9})
	}
	for _, n := range []dec.Num{{N: 0, Scale: 1}, {N: 10, Scale: 1}, {N: -150, Scale: 9}, {N: 1, Scale: 10}, {N: 1, Scale: -1}, {N: 1, Scale: 100}, {N: 1, Scale: math.MinInt}, {N: math.MinInt, Scale: math.MaxInt}} {
		as = append(as, api.Atom{Kind: api.Dec, N: n.N, Scale: n.Scale})
	}
	for _, s := range []string{"\x00", "\x01", "a\x1f", "\xff", "1\xc3", "\xed\xa0\x80", "\ufffe", "7\v", "\f1", "true\x00"} {
		as = append(as, api.Atom{Kind: api.Str, S: s}, api.Atom{Kind: api.Untyped, S: s})
	}
	return append(as, strangers()...)
}

// strangers have a field set that their kind hasn't.
func strangers() []api.Atom {
	var as []api.Atom
	for _, kind := range []api.AtomKind{api.Int, api.Dec} {
		as = append(as, api.Atom{Kind: kind, N: 1, S: "1"}, api.Atom{Kind: kind, N: 1, B: true}, api.Atom{Kind: kind, S: "x"}, api.Atom{Kind: kind, B: true})
	}
	for _, scale := range []int{1, 9, -1, 10} {
		as = append(as, api.Atom{Kind: api.Int, N: 1, Scale: scale}, api.Atom{Kind: api.Int, Scale: scale}, api.Atom{Kind: api.Bool, Scale: scale})
	}
	for _, kind := range []api.AtomKind{api.Str, api.Untyped} {
		for _, s := range []string{"", "1"} {
			as = append(as, api.Atom{Kind: kind, S: s, N: 1}, api.Atom{Kind: kind, S: s, Scale: 1}, api.Atom{Kind: kind, S: s, B: true})
		}
	}
	for _, b := range []bool{false, true} {
		as = append(as, api.Atom{Kind: api.Bool, B: b, N: 1}, api.Atom{Kind: api.Bool, B: b, N: -1}, api.Atom{Kind: api.Bool, B: b, Scale: 1}, api.Atom{Kind: api.Bool, B: b, S: "true"})
	}
	return as
}

func TestP31Right(t *testing.T) {
	as := rights()
	if !Right() || !Right(as...) {
		t.Error("Right of right values: false")
	}
	for _, a := range as {
		if !Right(a) {
			t.Errorf("Right(%#v): false", a)
		}
	}
	for _, a := range wrongs() {
		if Right(a) {
			t.Errorf("Right(%#v): true", a)
		}
		for at := range 3 {
			mixed := slices.Clone(as[:3])
			mixed[at] = a
			if Right(mixed...) {
				t.Errorf("Right with %#v at %d: true", a, at)
			}
		}
	}
}

func TestP31Made(t *testing.T) {
	for _, n := range []int{0, 1, -1, top, -top, top + 1, math.MaxInt, math.MinInt} {
		if got := Of(n); got != (api.Atom{Kind: api.Int, N: n}) {
			t.Errorf("Of(%d): %#v", n, got)
		}
	}
	for _, s := range append(slices.Clone(texts), "\xff", "\x00", "a\x01") {
		if got := Text(s); got != (api.Atom{Kind: api.Str, S: s}) {
			t.Errorf("Text(%q): %#v", s, got)
		}
		if got := Raw(s); got != (api.Atom{Kind: api.Untyped, S: s}) {
			t.Errorf("Raw(%q): %#v", s, got)
		}
	}
	for _, b := range []bool{false, true} {
		if got := Truth(b); got != (api.Atom{Kind: api.Bool, B: b}) {
			t.Errorf("Truth(%v): %#v", b, got)
		}
	}
	for _, n := range append(nums(), dec.Num{N: 10, Scale: 1}, dec.Num{N: 1, Scale: -1}, dec.Num{N: math.MinInt, Scale: math.MaxInt}, dec.Num{Scale: 3}) {
		if got := Number(n); got != (api.Atom{Kind: api.Dec, N: n.N, Scale: n.Scale}) {
			t.Errorf("Number(%v): %#v", n, got)
		}
	}
}

func TestP31String(t *testing.T) {
	for _, c := range []struct {
		a    api.Atom
		want string
	}{
		{Of(0), "0"}, {Of(7), "7"}, {Of(-7), "-7"}, {Of(100), "100"}, {Of(top), "999999999999999999"}, {Of(-top), "-999999999999999999"}, {Of(math.MinInt), "-9223372036854775808"},
		{Number(dec.Num{}), "0"}, {Number(dec.Num{N: 5}), "5"}, {Number(dec.Num{N: -5, Scale: 1}), "-0.5"}, {Number(dec.Num{N: 15, Scale: 1}), "1.5"}, {Number(dec.Num{N: 1, Scale: 9}), "0.000000001"},
		{Number(dec.Num{N: top, Scale: 9}), "999999999.999999999"}, {Number(dec.Num{N: -top, Scale: 1}), "-99999999999999999.9"},
		{Truth(true), "true"}, {Truth(false), "false"}, {Text(""), ""}, {Raw(""), ""}, {Text(" a\n"), " a\n"}, {Raw(" 1.50 "), " 1.50 "}, {Text("é"), "é"}, {Raw("\xff"), "\xff"},
		// An Int has no Scale, a Str no number: fields of other kinds don't count.
		{api.Atom{Kind: api.Int, N: 5, Scale: 1, S: "x", B: true}, "5"}, {api.Atom{Kind: api.Str, N: 5, S: "x", B: true}, "x"}, {api.Atom{Kind: api.Bool, N: 5, S: "x"}, "false"}, {api.Atom{Kind: api.Dec, N: 5, Scale: 1, S: "x"}, "0.5"},
	} {
		if got := String(c.a); got != c.want {
			t.Errorf("String(%#v): %q; want %q", c.a, got, c.want)
		}
	}
	for _, n := range nums() {
		if got := String(Number(n)); got != dec.Format(n) {
			t.Errorf("String of the Dec %v: %q", n, got)
		}
	}
	for _, kind := range noKinds {
		if got := String(api.Atom{Kind: kind, N: 1, S: "a", B: true}); got != "" {
			t.Errorf("String of the kind %d: %q", kind, got)
		}
	}
}

func TestP31NumericAndNum(t *testing.T) {
	for _, n := range nums() {
		if a := Number(n); !Numeric(a) || Num(a) != n {
			t.Errorf("the Dec %v: %v, %v", n, Numeric(a), Num(a))
		}
	}
	for _, n := range []int{0, 1, -1, 10, top, -top, math.MaxInt, math.MinInt} {
		if a := Of(n); !Numeric(a) || Num(a) != (dec.Num{N: n}) {
			t.Errorf("the Int %d: %v, %v", n, Numeric(a), Num(a))
		}
	}
	if a := (api.Atom{Kind: api.Int, N: 5, Scale: 2}); Num(a) != (dec.Num{N: 5}) {
		t.Errorf("Num of an Int with a Scale: %v", Num(a))
	}
	others := []api.Atom{Text("1"), Raw("1"), Truth(true), Truth(false), {}}
	for _, kind := range append(slices.Clone(noKinds), api.Str, api.Untyped, api.Bool) {
		others = append(others, api.Atom{Kind: kind, N: 7, Scale: 1, S: "7", B: true})
	}
	for _, a := range others {
		if Numeric(a) || Num(a) != (dec.Num{}) {
			t.Errorf("%#v: %v, %v", a, Numeric(a), Num(a))
		}
	}
}

// check holds Cast and Castable to what is wanted.
func check(t *testing.T, a api.Atom, to api.AtomKind, want api.Atom, wantErr api.Errno) {
	t.Helper()
	if got, e := Cast(a, to); got != want || e != wantErr {
		t.Errorf("Cast(%#.60v, %d): %#v, %v; want %#v, %v", a, to, got, e, want, wantErr)
	}
	if got := Castable(a, to); got != (wantErr == api.OK) {
		t.Errorf("Castable(%#.60v, %d): %v", a, to, got)
	}
}

func TestP32FromInt(t *testing.T) {
	for _, n := range []int{0, 1, -1, 2, 10, 1000, -1000, top, -top, top - 1} {
		a, s := Of(n), big.NewInt(int64(n)).String()
		check(t, a, api.Int, a, api.OK)
		check(t, a, api.Dec, Number(dec.Num{N: n}), api.OK)
		check(t, a, api.Str, Text(s), api.OK)
		check(t, a, api.Untyped, Raw(s), api.OK)
		check(t, a, api.Bool, Truth(n != 0), api.OK)
	}
}

func TestP32FromDec(t *testing.T) {
	for s, whole := range map[string]int{
		"0": 0, "1": 1, "-1": -1, "10": 10, "2.5": 2, "-2.5": -2, "0.5": 0, "-0.5": 0, "0.999999999": 0, "-0.999999999": 0, "1.000000001": 1, "-1.000000001": -1, "9.9": 9, "-9.9": -9, "0.000000001": 0, "-0.000000001": 0,
		"999999999999999999": top, "-999999999999999999": -top, "99999999999999999.9": 99999999999999999, "-99999999999999999.9": -99999999999999999, "999999999.999999999": 999999999, "-999999999.999999999": -999999999,
	} {
		n, e := dec.Parse(s)
		if e != api.OK {
			t.Fatalf("%q: %v", s, e)
		}
		a := Number(n)
		check(t, a, api.Int, Of(whole), api.OK)
		check(t, a, api.Dec, a, api.OK)
		check(t, a, api.Str, Text(s), api.OK)
		check(t, a, api.Untyped, Raw(s), api.OK)
		check(t, a, api.Bool, Truth(s != "0"), api.OK)
	}
}

func TestP32FromDecOfEachScale(t *testing.T) {
	for _, n := range nums() {
		value := new(big.Rat).SetFrac(big.NewInt(int64(n.N)), new(big.Int).Exp(big.NewInt(10), big.NewInt(int64(n.Scale)), nil))
		whole := new(big.Int).Quo(value.Num(), value.Denom())
		check(t, Number(n), api.Int, Of(int(whole.Int64())), api.OK)
		check(t, Number(n), api.Dec, Number(n), api.OK)
		check(t, Number(n), api.Str, Text(dec.Format(n)), api.OK)
		check(t, Number(n), api.Untyped, Raw(dec.Format(n)), api.OK)
		check(t, Number(n), api.Bool, Truth(n.N != 0), api.OK)
	}
}

func TestP32FromBool(t *testing.T) {
	for n, s := range []string{"false", "true"} {
		a := Truth(n == 1)
		check(t, a, api.Int, Of(n), api.OK)
		check(t, a, api.Dec, Number(dec.Num{N: n}), api.OK)
		check(t, a, api.Str, Text(s), api.OK)
		check(t, a, api.Untyped, Raw(s), api.OK)
		check(t, a, api.Bool, a, api.OK)
	}
}

// fromText holds the casts of a text, as a Str and as an Untyped, to one kind.
func fromText(t *testing.T, s string, to api.AtomKind, want api.Atom, e api.Errno) {
	t.Helper()
	check(t, Text(s), to, want, e)
	check(t, Raw(s), to, want, e)
}

func TestP32FromTextToInt(t *testing.T) {
	noughts := strings.Repeat("0", 10000)
	for s, n := range map[string]int{
		"0": 0, "7": 7, " 7 ": 7, "\t\n\r 7\r\n\t ": 7, "+7": 7, "-7": -7, " -7": -7, "-0": 0, "+0": 0, "00": 0, "007": 7, "-007": -7, "1000": 1000,
		"999999999999999999": top, "-999999999999999999": -top, "+999999999999999999": top, noughts: 0, noughts + "12": 12, "-" + noughts + "999999999999999999": -top,
	} {
		fromText(t, s, api.Int, Of(n), api.OK)
	}
	for _, s := range []string{
		"", " ", "\n", "+", "-", " + ", "+-1", "-+1", "--1", "++1", "- 1", "1-", "1 2", "7.0", "7.", ".5", ".", "-.", "1.5", "1,5", "1_000", "1e5", "0x1", "a", "7a", "a7", "true", "false", "NaN", "é",
		"\u0667", "７", "\u00a07", "7\u2028", "\u00857", strings.Repeat("9", 30) + "x", strings.Repeat("9", 30) + ".", "1000000000000000000.0", "1 000000000000000000",
	} {
		fromText(t, s, api.Int, api.Atom{}, api.ErrCast)
	}
	for _, s := range []string{
		"1000000000000000000", "-1000000000000000000", "+1000000000000000000", " 1000000000000000000 ", "0001000000000000000000", "9223372036854775807", "9223372036854775808", "-9223372036854775808",
		"18446744073709551616", "18446744073709551617", "340282366920938463463374607431768211456", strings.Repeat("9", 100000), "1" + noughts,
	} {
		fromText(t, s, api.Int, api.Atom{}, api.ErrOver)
	}
}

func TestP32FromTextToDec(t *testing.T) {
	for s, n := range map[string]dec.Num{
		"0": {}, "7": {N: 7}, " 7 ": {N: 7}, "\t\n\r -7.5\r\n": {N: -75, Scale: 1}, "+7": {N: 7}, "7.0": {N: 7}, "7.": {N: 7}, ".5": {N: 5, Scale: 1}, "-.5": {N: -5, Scale: 1}, "1.50": {N: 15, Scale: 1}, "-0.0": {},
		"1.0000000009": {N: 1}, "-1.0000000009": {N: -1}, "-0.0000000009": {}, "0.000000001": {N: 1, Scale: 9}, "999999999999999999": {N: top}, "-999999999999999999.0": {N: -top}, "999999999.9999999999": {N: top, Scale: 9},
		"0" + strings.Repeat("0", 10000) + ".5" + strings.Repeat("0", 10000): {N: 5, Scale: 1},
	} {
		fromText(t, s, api.Dec, Number(n), api.OK)
	}
	for _, s := range []string{"", " ", ".", "+", "-", "-.", "+-1", "--1", "- 1", "1.2.3", "1 .5", "1e5", "1,5", "a", "true", "false", "NaN", "INF", "\u0667", "\u00a07", "7\u3000", strings.Repeat("9", 30) + "x"} {
		fromText(t, s, api.Dec, api.Atom{}, api.ErrCast)
	}
	for _, s := range []string{"1000000000000000000", "-1000000000000000000.0", "999999999999999999.5", "1000000000.000000001", strings.Repeat("9", 100000), " " + strings.Repeat("9", 30) + ".5 "} {
		fromText(t, s, api.Dec, api.Atom{}, api.ErrOver)
	}
}

func TestP32FromTextToBool(t *testing.T) {
	for s, b := range map[string]bool{"true": true, "1": true, "false": false, "0": false, " true ": true, "\t1\n": true, "\r\nfalse\r\n": false, " 0": false} {
		fromText(t, s, api.Bool, Truth(b), api.OK)
	}
	for _, s := range []string{"", " ", "TRUE", "True", "False", "t", "f", "yes", "no", "tru", "truee", "true1", "tr ue", "01", "00", "+1", "-0", "1.0", "0.", "2", "10", "\u00a0true", "é", "１"} {
		fromText(t, s, api.Bool, api.Atom{}, api.ErrCast)
	}
}

func TestP32FromTextToTexts(t *testing.T) {
	for _, s := range append(slices.Clone(texts), strings.Repeat(" é", 100000)) {
		fromText(t, s, api.Str, Text(s), api.OK)
		fromText(t, s, api.Untyped, Raw(s), api.OK)
	}
}

var (
	wholeForm = regexp.MustCompile(`^[+-]?[0-9]+$`)
	pointForm = regexp.MustCompile(`^[+-]?([0-9]+(\.[0-9]*)?|\.[0-9]+)$`)
)

// said is what a text of few digits says as a number, by the library's own numbers.
func said(t *testing.T, s string) dec.Num {
	t.Helper()
	v, ok := new(big.Rat).SetString(s)
	if !ok {
		t.Fatalf("%q: no number", s)
	}
	scale := 0
	for !v.IsInt() {
		v.Mul(v, big.NewRat(10, 1))
		scale++
	}
	return dec.Num{N: int(v.Num().Int64()), Scale: scale}
}

// TestP32ShortTexts goes through all texts of up to five of the characters that count.
func TestP32ShortTexts(t *testing.T) {
	row := []string{""}
	for range 5 {
		next := []string{""}
		for _, s := range row {
			for _, c := range []string{" ", "+", "-", ".", "0", "1", "9", "e"} {
				next = append(next, s+c)
			}
		}
		row = next
	}
	for _, s := range row {
		trimmed := strings.Trim(s, " ")
		if wholeForm.MatchString(trimmed) {
			fromText(t, s, api.Int, Of(said(t, trimmed).N), api.OK)
		} else {
			fromText(t, s, api.Int, api.Atom{}, api.ErrCast)
		}
		if pointForm.MatchString(trimmed) {
			fromText(t, s, api.Dec, Number(said(t, trimmed)), api.OK)
		} else {
			fromText(t, s, api.Dec, api.Atom{}, api.ErrCast)
		}
		if trimmed == "1" || trimmed == "0" {
			fromText(t, s, api.Bool, Truth(trimmed == "1"), api.OK)
		} else {
			fromText(t, s, api.Bool, api.Atom{}, api.ErrCast)
		}
	}
}

func TestP32ToNoKind(t *testing.T) {
	for _, a := range rights() {
		for _, to := range noKinds {
			check(t, a, to, api.Atom{}, api.ErrArg)
		}
	}
}

// TestP32WrongValues: the chapter promises of these that they end; Cast refuses them.
func TestP32WrongValues(t *testing.T) {
	for _, a := range wrongs() {
		for _, to := range append(slices.Clone(kinds), noKinds...) {
			check(t, a, to, api.Atom{}, api.ErrArg)
		}
		String(a)
		Num(a)
	}
}

func TestP32AnswersAreRight(t *testing.T) {
	for _, a := range rights() {
		for _, to := range kinds {
			got, e := Cast(a, to)
			switch {
			case e == api.OK && (got.Kind != to || !Right(got)):
				t.Errorf("Cast(%#v, %d): %#v", a, to, got)
			case e != api.OK && e != api.ErrCast && e != api.ErrOver:
				t.Errorf("Cast(%#v, %d): %v", a, to, e)
			}
		}
	}
}

func TestP33ThereAndBack(t *testing.T) {
	for _, a := range rights() {
		s, e := Cast(a, api.Str)
		if e != api.OK || s != Text(String(a)) {
			t.Errorf("Cast(%#v, Str): %#v, %v", a, s, e)
		}
		check(t, s, a.Kind, a, api.OK)
	}
}

func TestP33OwnKind(t *testing.T) {
	for _, a := range rights() {
		check(t, a, a.Kind, a, api.OK)
	}
}
