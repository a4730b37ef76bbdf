package char

import (
	"math"
	"slices"
	"strings"
	"testing"
	"unicode/utf8"

	"espalier/api"
)

const smile = "\U0001F600"

// bad are texts that are no UTF-8.
var bad = []string{
	"\x80", "\xff", "a\xffb", "\xc3", "\xc3 ", "\xc0\xaf", "\xe2\x82", "a\xe2\x82", "\xed\xa0\x80", "\xed\xbf\xbf",
	"\xf0\x80\x80\x80", "\xf4\x90\x80\x80", "\xf8\x88\x80\x80\x80", "\xef\xbf\xbd\x80",
}

type span struct{ from, to int }

func within(p int, spans []span) bool {
	return slices.ContainsFunc(spans, func(s span) bool { return s.from <= p && p <= s.to })
}

// The ranges of the chapter's Words, written out once more, in its own numbers.
var (
	xmlSpans    = []span{{9, 10}, {13, 13}, {32, 55295}, {57344, 65533}, {65536, 1114111}}
	letterSpans = []span{{65, 90}, {97, 122}, {95, 95}, {192, 214}, {216, 246}, {248, 55295}, {57344, 65533}, {65536, 1114111}}
	behindSpans = []span{{48, 57}, {45, 46}, {183, 183}}
)

// encode writes a code point's bytes, of surrogates too, which string(rune) does not.
func encode(p int) string {
	if p >= 0xD800 && p < 0xE000 {
		return string([]byte{0xED, byte(0x80 | p>>6&0x3F), byte(0x80 | p&0x3F)})
	}
	return string(rune(p))
}

func TestP11ValidOfAllPoints(t *testing.T) {
	for p := range int(utf8.MaxRune) + 1 {
		if got, want := Valid(encode(p)), within(p, xmlSpans); got != want {
			t.Fatalf("Valid of the code point %d: %v", p, got)
		}
	}
}

func TestP11ValidOfTexts(t *testing.T) {
	for _, s := range []string{"", "a", "a b\t\r\n", "é", "\ufffd", smile, "a\U0010FFFF", "\u0085\u00a0"} {
		if !Valid(s) {
			t.Errorf("Valid(%q): false", s)
		}
	}
	for _, s := range append(slices.Clone(bad), "\x00", "\x01", "a\x1fb", "a\x0b", "\ufffe", "b\uffff", "\ufffea") {
		if Valid(s) {
			t.Errorf("Valid(%q): true", s)
		}
	}
}

func TestP11ValidOfSeveral(t *testing.T) {
	if !Valid() || !Valid("a", "", "é") {
		t.Error("Valid of valid texts: false")
	}
	for at := range 3 {
		ss := []string{"a", "b", "c"}
		ss[at] = "\xff"
		if Valid(ss...) {
			t.Errorf("Valid with a bad text at %d: true", at)
		}
		ss[at] = "\x01"
		if Valid(ss...) {
			t.Errorf("Valid with a bad character at %d: true", at)
		}
	}
}

func TestP11NameOfAllPoints(t *testing.T) {
	for p := range int(utf8.MaxRune) + 1 {
		first := within(p, letterSpans)
		behind := first || within(p, behindSpans)
		c := encode(p)
		if Name(c) != first || Name(c+"a") != first {
			t.Fatalf("Name that begins with the code point %d: not %v", p, first)
		}
		if Name("a"+c) != behind || Name("a"+c+"b") != behind {
			t.Fatalf("Name with the code point %d behind: not %v", p, behind)
		}
	}
}

func TestP11NameOfTexts(t *testing.T) {
	for _, s := range []string{"a", "_", "A-1", "a.b", "a·", "é", "xs-integer", "_0", smile, "a" + strings.Repeat("9", 1000)} {
		if !Name(s) {
			t.Errorf("Name(%q): false", s)
		}
	}
	for _, s := range append(slices.Clone(bad), "", "1a", "-a", ".a", "·", "a b", " a", "a ", "a:b", "×", "a÷", "a\n", "a/b", "a@", "a[", "a`", "a{", "ª", "a\x00", "a\xff", "é\xc3", "\ufffe") {
		if Name(s) {
			t.Errorf("Name(%q): true", s)
		}
	}
}

func TestP11Trim(t *testing.T) {
	for s, want := range map[string]string{
		"": "", "a": "a", " ": "", "\t\n\r ": "", " a": "a", "a ": "a", " \ta  b\r\n": "a  b", "\ta\n": "a", "\ra\r": "a", " é ": "é",
		"\u00a0a\u00a0": "\u00a0a\u00a0", "\u2003a\u3000": "\u2003a\u3000", "\u0085a": "\u0085a", "\va\f": "\va\f", " \va\x00 ": "\va\x00",
		" \xff \x80\n": "\xff \x80", "\n\xc3 ": "\xc3",
	} {
		if got := Trim(s); got != want {
			t.Errorf("Trim(%q): %q", s, got)
		}
	}
}

func TestP11Normal(t *testing.T) {
	for s, want := range map[string]string{
		"": "", "a": "a", "  ": "", "\t\n\r ": "", " a  b ": "a b", "a\tb\nc\rd e": "a b c d e", "a\r\n\t b": "a b", "\n é  ü\t": "é ü",
		"a \u00a0 b": "a \u00a0 b", "a\u2003\u2003b": "a\u2003\u2003b", "a\u0085b": "a\u0085b", "a\vb\fc": "a\vb\fc",
		" \xff  \x80\n": "\xff \x80", "\xc3  \xed\xa0\x80 ": "\xc3 \xed\xa0\x80",
	} {
		if got := Normal(s); got != want {
			t.Errorf("Normal(%q): %q", s, got)
		}
	}
}

func TestP11SpacesOfAllBytes(t *testing.T) {
	for n := range 256 {
		c := string([]byte{byte(n)})
		trimmed, rowed := c+"a"+c, "a"+c+c+"a"
		if n == 9 || n == 10 || n == 13 || n == 32 {
			trimmed, rowed = "a", "a a"
		}
		if got := Trim(c + "a" + c); got != trimmed {
			t.Errorf("Trim with the byte %d at both ends: %q", n, got)
		}
		if got := Normal("a" + c + c + "a"); got != rowed {
			t.Errorf("Normal with the byte %d twice: %q", n, got)
		}
	}
}

func TestP12LenAndPoints(t *testing.T) {
	for _, c := range []struct {
		s    string
		want []int
	}{
		{"", nil},
		{"a", []int{97}},
		{"é", []int{233}},
		{"aéc", []int{97, 233, 99}},
		{"\t\n\r ", []int{9, 10, 13, 32}},
		{"e\u0301", []int{101, 769}},
		{"\u007f\u0080\u07ff\u0800", []int{0x7f, 0x80, 0x7ff, 0x800}},
		{"\ud7ff\ue000\ufffd\U00010000\U0010FFFF", []int{55295, 57344, 65533, 65536, 1114111}},
		{smile + "a", []int{0x1F600, 97}},
	} {
		if got := Len(c.s); got != len(c.want) {
			t.Errorf("Len(%q): %d", c.s, got)
		}
		if got := Points(c.s); !slices.Equal(got, c.want) {
			t.Errorf("Points(%q): %v", c.s, got)
		}
	}
}

func TestP12PointsAreNewEachTime(t *testing.T) {
	first := Points("abc")
	first[0] = 0
	if got := Points("abc"); !slices.Equal(got, []int{97, 98, 99}) {
		t.Errorf("Points once more: %v", got)
	}
}

func TestP12Sub(t *testing.T) {
	s := "aé" + smile + "d"
	for _, c := range []struct {
		from, count int
		want        string
	}{
		{0, 4, s}, {0, 5, s}, {0, 3, "aé" + smile}, {0, 1, "a"}, {1, 1, "é"}, {1, 2, "é" + smile}, {2, 1, smile}, {2, 9, smile + "d"},
		{3, 1, "d"}, {3, 2, "d"}, {4, 1, ""}, {9, 9, ""},
		{0, 0, ""}, {0, -1, ""}, {2, 0, ""}, {2, -2, ""}, {-1, -1, ""}, {-1, 0, ""}, {-1, 1, ""}, {-1, 2, "a"}, {-1, 3, "aé"}, {-3, 3, ""}, {-3, 4, "a"},
		{-1, 5, s}, {-1, 6, s},
		{0, math.MaxInt, s}, {1, math.MaxInt, "é" + smile + "d"}, {3, math.MaxInt, "d"}, {4, math.MaxInt, ""}, {math.MaxInt, math.MaxInt, ""}, {math.MaxInt, 1, ""},
		{-1, math.MaxInt, s}, {math.MinInt, math.MaxInt, ""}, {-math.MaxInt, math.MaxInt, ""}, {2 - math.MaxInt, math.MaxInt, "aé"},
		{0, math.MinInt, ""}, {-1, math.MinInt, ""}, {math.MinInt, math.MinInt, ""}, {math.MaxInt, math.MinInt, ""},
	} {
		if got := Sub(s, c.from, c.count); got != c.want {
			t.Errorf("Sub(%q, %d, %d): %q", s, c.from, c.count, got)
		}
	}
	for from := -2; from < 3; from++ {
		for count := -2; count < 5; count++ {
			if got := Sub("", from, count); got != "" {
				t.Errorf("Sub of the empty text, %d, %d: %q", from, count, got)
			}
		}
	}
}

// meant counts place by place, as the promise says it.
func meant(s string, from, count int) string {
	want := ""
	cs := strings.Split(s, "")
	for place := from; place < from+count; place++ {
		if place >= 0 && place < len(cs) {
			want += cs[place]
		}
	}
	return want
}

func TestP12SubAtAllPlaces(t *testing.T) {
	for _, s := range []string{"", "a", "é", "abc", "aéc", smile + "é", "e\u0301\ufffd" + smile + "\t"} {
		for from := -4; from < 8; from++ {
			for count := -3; count < 12; count++ {
				if got, want := Sub(s, from, count), meant(s, from, count); got != want {
					t.Errorf("Sub(%q, %d, %d): %q, not %q", s, from, count, got, want)
				}
			}
		}
	}
}

func TestP12EndsOnTextsThatAreNotValid(t *testing.T) {
	for _, s := range append(slices.Clone(bad), "\x00", "\ufffe", "a\xff\xc3\xe2\x82b"+strings.Repeat("\xf0\x9f", 50)) {
		Len(s)
		Points(s)
		for _, from := range []int{math.MinInt, -2, -1, 0, 1, 2, 3, 40, math.MaxInt} {
			for _, count := range []int{math.MinInt, -1, 0, 1, 2, 3, 40, math.MaxInt} {
				Sub(s, from, count)
			}
		}
	}
}

func TestP13Compare(t *testing.T) {
	// In this order, of which the bytes alone tell.
	row := []string{
		"", "\x00", "\x00\x00", "\t", " ", "A", "B", "a", "a\x00", "a ", "aa", "ab", "b", "\x80", "é", "éa", "\ud7ff", "\ue000", "\uffee", "\ufffd", "\ufffe", "\U00010000", smile, "\U0010FFFF", "\xff", "\xff\x00",
	}
	for i, a := range row {
		for j, b := range row {
			want := 0
			if i < j {
				want = -1
			} else if i > j {
				want = 1
			}
			if got := Compare(a, b); got != want {
				t.Errorf("Compare(%q, %q): %d", a, b, got)
			}
		}
	}
}

func TestP13CompareIsByPoints(t *testing.T) {
	row := []string{"", "a", "b", "ab", "é", "aé", "\ud7ff", "\ue000", "\ufffd", smile, "a" + smile, "é" + smile, "\u07ff", "\u0800", "\x7f", "\u0080"}
	for _, a := range row {
		for _, b := range row {
			if got, want := Compare(a, b), slices.Compare(Points(a), Points(b)); got != want {
				t.Errorf("Compare(%q, %q): %d, not %d", a, b, got, want)
			}
		}
	}
}

func TestP13TextOfAllPoints(t *testing.T) {
	for p := -70000; p < int(utf8.MaxRune)+70000; p++ {
		want, e := "", api.ErrArg
		if within(p, xmlSpans) {
			want, e = string(rune(p)), api.OK
		}
		if got, err := Text(p); got != want || err != e {
			t.Fatalf("Text(%d): %q, %v", p, got, err)
		}
	}
}

func TestP13TextOfSeveral(t *testing.T) {
	for _, c := range []struct {
		ps   []int
		want string
	}{
		{nil, ""}, {[]int{}, ""}, {[]int{97}, "a"}, {[]int{97, 233, 0x1F600, 9}, "aé" + smile + "\t"}, {[]int{32, 32}, "  "},
	} {
		if got, e := Text(c.ps...); got != c.want || e != api.OK {
			t.Errorf("Text of %v: %q, %v", c.ps, got, e)
		}
	}
	wrong := []int{
		0, -1, 8, 11, 12, 14, 31, 55296, 57343, 65534, 65535, 1114112, -97, math.MaxInt32, math.MinInt32, math.MaxInt, math.MinInt,
		1<<32 + 97, 1<<40 | 97, -1<<32 + 97, 1<<63 - 1<<32 + 97, math.MinInt + 97, // their last 32 bits are a character's
	}
	for _, p := range wrong {
		for at := range 3 {
			ps := []int{97, 98, 99}
			ps[at] = p
			if got, e := Text(ps...); got != "" || e != api.ErrArg {
				t.Errorf("Text of %v: %q, %v", ps, got, e)
			}
		}
	}
}

func TestP13TextLeavesItsNumbers(t *testing.T) {
	room := []int{97, 233, 7, 8}
	if got, e := Text(room[:2]...); got != "aé" || e != api.OK || !slices.Equal(room, []int{97, 233, 7, 8}) {
		t.Errorf("Text: %q, %v, its numbers %v", got, e, room)
	}
}

func TestP12P13ThereAndBack(t *testing.T) {
	for _, s := range []string{"", "a", "aéc", smile + "\t\n\r ", "\ud7ff\ue000\ufffd\U00010000\U0010FFFF"} {
		if got, e := Text(Points(s)...); got != s || e != api.OK {
			t.Errorf("Text of the points of %q: %q, %v", s, got, e)
		}
	}
}

func TestP11P12P13ExamplesOfTheChapter(t *testing.T) {
	if Valid("\x01") || !Name("a-1") || Name("1a") || Name("") {
		t.Error("P1.1")
	}
	if Normal(" a  b ") != "a b" {
		t.Error("P1.1: Normal")
	}
	if Sub("abc", -1, 3) != "ab" || !slices.Equal(Points("é"), []int{233}) {
		t.Error("P1.2")
	}
	if s, e := Text(0); s != "" || e != api.ErrArg {
		t.Error("P1.3")
	}
}
