package lex_test

import (
	"math/big"
	"regexp"
	"slices"
	"strings"
	"testing"
	"unicode/utf8"

	"espalier/api"
	"espalier/lex"
)

// The chapter's tokens and pieces once more, by regular expressions.
const (
	letters = `A-Za-z_\x{C0}-\x{D6}\x{D8}-\x{F6}\x{F8}-\x{10FFFF}`
	word    = `[` + letters + `][` + letters + `0-9.\x{B7}-]*`
	refWord = `&(?:lt|gt|amp|quot|apos|#[0-9]+|#x[0-9A-Fa-f]+);`
)

var (
	gap      = regexp.MustCompile(`^[ \t\n\r]+`)
	nameForm = regexp.MustCompile(`^` + word + `(?::` + word + `)?`)
	variForm = regexp.MustCompile(`^\$` + word)
	numForm  = regexp.MustCompile(`^(?:[0-9]+(?:\.[0-9]*)?|\.[0-9]+)`)
	ahead    = regexp.MustCompile(`^[` + letters + `0-9]`)
	signForm = regexp.MustCompile(`^(?::=|::|\.\.|//|!=|<=|<<|>=|>>|[()\[\]{},;./@*+=<>|?-])`)
	strForms = map[byte]*regexp.Regexp{'"': strForm(`"`), '\'': strForm("'")}
	refForm  = regexp.MustCompile(refWord)
	conForm  = regexp.MustCompile(`^(?:[^<{}&]|\{\{|\}\}|` + refWord + `)*`)
	valForms = map[byte]*regexp.Regexp{'"': valForm(`"`), '\'': valForm("'")}
	tabOrEnd = regexp.MustCompile(`[\t\n\r]`)
	refSays  = map[string]string{"&lt;": "<", "&gt;": ">", "&amp;": "&", "&quot;": `"`, "&apos;": "'"}
)

func strForm(quote string) *regexp.Regexp {
	return regexp.MustCompile(`^` + quote + `(?:[^&` + quote + `]|` + quote + quote + `|` + refWord + `)*` + quote)
}

func valForm(quote string) *regexp.Regexp {
	return regexp.MustCompile(`^(?:[^<{}&` + quote + `]|\{\{|\}\}|` + quote + quote + `|` + refWord + `)*`)
}

func isXML(n int64) bool {
	return n == 9 || n == 10 || n == 13 || n >= 32 && n <= 55295 || n >= 57344 && n <= 65533 || n >= 65536 && n <= 1114111
}

func readable(s string, from int) bool {
	valid := utf8.ValidString(s) && !strings.ContainsFunc(s, func(c rune) bool { return !isXML(int64(c)) })
	return valid && len(s) <= 65536 && from >= 0 && from <= len(s)
}

// spoken is what a text says in which references and doubled characters stand: each of these, and what is between, which between changes.
func spoken(s string, doubled *regexp.Regexp, between func(string) string) (string, bool) {
	said, ok, end := "", true, 0
	for _, m := range doubled.FindAllStringIndex(s, -1) {
		said += between(s[end:m[0]])
		if mark := s[m[0]:m[1]]; mark[0] != '&' {
			said += mark[:1]
		} else if c, right := refMeans(mark); right {
			said += c
		} else {
			ok = false
		}
		end = m[1]
	}
	return said + between(s[end:]), ok
}

var doubles = map[string]*regexp.Regexp{}

// marks are references and these bytes doubled.
func marks(bytes string) *regexp.Regexp {
	if doubles[bytes] == nil {
		form := refWord
		for _, c := range bytes {
			form += `|` + regexp.QuoteMeta(string(c)+string(c))
		}
		doubles[bytes] = regexp.MustCompile(form)
	}
	return doubles[bytes]
}

// refMeans is what a reference of the right form means.
func refMeans(ref string) (string, bool) {
	if said := refSays[ref]; said != "" {
		return said, true
	}
	n := new(big.Int)
	if digits := ref[2 : len(ref)-1]; digits[0] == 'x' {
		n.SetString(digits[1:], 16)
	} else {
		n.SetString(digits, 10)
	}
	if !n.IsInt64() || !isXML(n.Int64()) {
		return "", false
	}
	return string(rune(n.Int64())), true
}

func same(s string) string { return s }

// remarkEnd is where the remark that begins at from ends, or -1.
func remarkEnd(s string, from int) int {
	at := from + 2
	for at < len(s) {
		if strings.HasPrefix(s[at:], ":)") {
			return at + 2
		}
		if strings.HasPrefix(s[at:], "(:") {
			if at = remarkEnd(s, at); at < 0 {
				return -1
			}
			continue
		}
		at++
	}
	return -1
}

// judgeNext is what Next should answer.
func judgeNext(s string, from int) (api.Token, api.Errno) {
	if !readable(s, from) {
		return api.Token{}, api.ErrArg
	}
	for from < len(s) {
		if m := gap.FindString(s[from:]); m != "" {
			from += len(m)
		} else if strings.HasPrefix(s[from:], "(:") {
			if from = remarkEnd(s, from); from < 0 {
				return api.Token{}, api.ErrSyntax
			}
		} else {
			break
		}
	}
	if from == len(s) {
		return api.Token{At: from, End: from}, api.OK
	}
	x, size := judgeToken(s[from:])
	if size == 0 {
		return api.Token{}, api.ErrSyntax
	}
	return at(x, from, from+size), api.OK
}

// judgeToken is the token that s begins with, and its size.
func judgeToken(s string) (api.Token, int) {
	// Of a character that is cut the regular expressions would make the character 65533.
	if !utf8.RuneStart(s[0]) {
		return api.Token{}, 0
	}
	if m := nameForm.FindString(s); m != "" {
		return name(m), len(m)
	} else if m := variForm.FindString(s); m != "" {
		return vari(m[1:]), len(m)
	} else if m := numForm.FindString(s); m != "" {
		if ahead.MatchString(s[len(m):]) {
			return api.Token{}, 0
		}
		return numeral(m), len(m)
	} else if form := strForms[s[0]]; form != nil {
		m := form.FindString(s)
		if m == "" || strings.HasPrefix(s[len(m):], s[:1]) {
			return api.Token{}, 0
		}
		said, ok := spoken(m[1:len(m)-1], marks(s[:1]), same)
		if !ok {
			return api.Token{}, 0
		}
		return str(said), len(m)
	}
	m := signForm.FindString(s)
	return sign(m), len(m)
}

// judgeAll is what All should answer.
func judgeAll(s string) ([]api.Token, api.Errno) {
	var ts []api.Token
	x, e := judgeNext(s, 0)
	for e == api.OK && x.Kind != 0 {
		ts = append(ts, x)
		x, e = judgeNext(s, x.End)
	}
	if e != api.OK {
		ts = nil
	}
	return ts, e
}

// counts is how often the calls answered what.
type counts map[api.Errno]int

// tokens holds All, and Next at every place and at the two beside, to the judge.
func (c counts) tokens(t *testing.T, s string) {
	t.Helper()
	want, err := judgeAll(s)
	c[err]++
	got, e := lex.All(s)
	if e != err || !slices.Equal(got, want) {
		t.Fatalf("All(%q): %s, %v; the judge says %s, %v", s, short(got), e, short(want), err)
	}
	apart(t, s, got)
	for from := -1; from <= len(s)+1; from++ {
		want, err := judgeNext(s, from)
		if got, e := lex.Next(s, from); got != want || e != err {
			t.Fatalf("Next(%q, %d): %s, %v; the judge says %s, %v", s, from, short(got), e, short(want), err)
		}
	}
}

// pieces holds Content and Value at every place and at the two beside to the judge.
func (c counts) pieces(t *testing.T, s string) {
	t.Helper()
	for from := -1; from <= len(s)+1; from++ {
		if !readable(s, from) {
			none(t, s, from, false)
			continue
		}
		c.content(t, s, from)
		c.value(t, s, from, '"')
		c.value(t, s, from, '\'')
	}
}

func (c counts) content(t *testing.T, s string, from int) {
	t.Helper()
	m := conForm.FindString(s[from:])
	said, ok := spoken(m, marks("{}"), same)
	end := from + len(m)
	if !ok || strings.HasPrefix(s[end:], "&") {
		c[api.ErrSyntax]++
		noContent(t, s, from, api.ErrSyntax)
	} else {
		c[api.OK]++
		content(t, s, from, said, gap.ReplaceAllString(m, "") != "", end)
	}
}

func (c counts) value(t *testing.T, s string, from int, quote byte) {
	t.Helper()
	m := valForms[quote].FindString(s[from:])
	said, ok := spoken(m, marks("{}"+string(quote)), func(s string) string { return tabOrEnd.ReplaceAllString(s, " ") })
	end := from + len(m)
	if !ok || strings.HasPrefix(s[end:], "&") || strings.HasPrefix(s[end:], "<") {
		c[api.ErrSyntax]++
		noValue(t, s, from, quote, api.ErrSyntax)
	} else {
		c[api.OK]++
		value(t, s, from, quote, said, end)
	}
}

// both asks for as many texts that were taken and as many that were not.
func (c counts) both(t *testing.T, taken, others int) {
	t.Helper()
	if c[api.OK] < taken || c[api.ErrSyntax] < others {
		t.Errorf("of what was judged too little was taken, or too little wasn't: %v", c)
	}
}

// rows goes through the rows of up to so many of these words.
func rows(most int, words []string, do func(row string)) {
	do("")
	if most > 0 {
		for _, w := range words {
			rows(most-1, words, func(row string) { do(w + row) })
		}
	}
}

func TestP101RowsOfNamesAndNumbers(t *testing.T) {
	c := counts{}
	rows(4, []string{"a", "é", "-", ".", "·", ":", "=", "1", "$", " ", "×"}, func(row string) { c.tokens(t, row) })
	rows(6, []string{"1", ".", "a", "-"}, func(row string) { c.tokens(t, row) })
	rows(6, []string{"a", ":", "=", "$"}, func(row string) { c.tokens(t, row) })
	c.both(t, 5000, 10000)
}

func TestP101RowsOfSigns(t *testing.T) {
	c := counts{}
	rows(2, signs, func(row string) { c.tokens(t, row) })
	rows(4, []string{"(", ")", ":", "=", "<", ">", "!", "/", ".", "|", "a"}, func(row string) { c.tokens(t, row) })
	c.both(t, 1000, 1000)
}

func TestP101RowsOfRemarks(t *testing.T) {
	c := counts{}
	rows(9, []string{"(", ":", ")"}, func(row string) { c.tokens(t, row) })
	rows(5, []string{"(:", ":)", "a", " ", "'", "é"}, func(row string) { c.tokens(t, row) })
	c.both(t, 1000, 10000)
}

func TestP101RowsOfStrings(t *testing.T) {
	c := counts{}
	rows(5, []string{`"`, "'", "a", "&lt;", "&", ";", "\r\n"}, func(row string) { c.tokens(t, row) })
	rows(3, []string{`"`, "'", "(:", "&#39;", "&quot;", "&#x0041;", "&#0;", "&#110000;", "&#x110000;", "é", "<", "{"}, func(row string) {
		c.tokens(t, `"`+row+`"`)
		c.tokens(t, "'"+row)
	})
	c.both(t, 2000, 5000)
}

func TestP103RowsOfReferences(t *testing.T) {
	c := counts{}
	rows(4, []string{"#", "x", "X", "4", "1", "A", "f", "g", "l", "t", ";", " ", "+", "-", "_", "0", "apos"}, func(row string) {
		c.content(t, "&"+row+";", 0)
		c.value(t, "&"+row+";", 0, '"')
	})
	c.both(t, 500, 1000)
}

func TestP103RowsOfPieces(t *testing.T) {
	c := counts{}
	rows(5, []string{"{", "}", "<", " ", "&lt;", "a"}, func(row string) { c.pieces(t, row) })
	rows(5, []string{`"`, "'", "\n", "&quot;", "{", "é"}, func(row string) { c.pieces(t, row) })
	rows(3, []string{"\r", "\n", "\t", " ", "&#10;", "&#32;", "&#13;", "{{", "}}", "&", "\u00a0", "×", "<"}, func(row string) { c.pieces(t, row) })
	c.both(t, 10000, 10000)
}

// Each place of a query is cut out, doubled, and made something else, by turns.
func TestP102Changed(t *testing.T) {
	c := counts{}
	for _, s := range []string{
		"declare function local:f($n as xs:integer?) {$n - 1.5}; (: r (: q :) :) local:f(.5)/..//é[1]",
		"let $x:=\"a\"\"&lt;\n\" return $x!='it''s&#65;' << @*|a::b>=2.",
	} {
		c.tokens(t, s)
		for i := range len(s) {
			for _, w := range []string{"", "a", "1", ".", ":", "(", ")", "(:", ":)", "'", "\"", "$", "&", ";", " ", "-", "=", "!", "é", "×", "\x00", "\xff"} {
				c.tokens(t, s[:i]+w+s[i:])
				c.tokens(t, s[:i]+w+s[i+1:])
			}
		}
	}
	c.both(t, 1000, 1000)
}
