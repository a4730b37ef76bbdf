package lex_test

import (
	"fmt"
	"slices"
	"strings"
	"testing"

	"espalier/api"
	"espalier/lex"
)

// A token without its places.
func name(text string) api.Token  { return api.Token{Kind: api.TokName, Text: text} }
func vari(text string) api.Token  { return api.Token{Kind: api.TokVar, Text: text} }
func whole(text string) api.Token { return api.Token{Kind: api.TokInt, Text: text} }
func part(text string) api.Token  { return api.Token{Kind: api.TokDec, Text: text} }
func str(text string) api.Token   { return api.Token{Kind: api.TokStr, Text: text} }
func sign(text string) api.Token  { return api.Token{Kind: api.TokPunct, Text: text} }

// row is a list of tokens.
func row(ts ...api.Token) []api.Token { return ts }

// at is the token with its places.
func at(t api.Token, at, end int) api.Token {
	t.At, t.End = at, end
	return t
}

// signs are those of the chapter, in its order.
var signs = strings.Fields("( ) [ ] { } , ; := :: . .. / // @ * + - = != < <= << > >= >> | ?")

// bad are texts that are not valid.
var bad = []string{
	"\x80", "\xff", "a\xffb", "\xc3", "\xc3 ", "\xc0\xaf", "a\xe2\x82", "\xed\xa0\x80", "\xf0\x80\x80\x80", "\xf4\x90\x80\x80",
	"\x00", "a\x01", "\x0b", "\x0c", "a \x1f", "\ufffe", "b\uffff", "'\x00'", "(:\x01:)", "a (: \xff", "$\xc3",
}

// short is as much of a thing as can be told.
func short(x any) string {
	return fmt.Sprintf("%.200s", fmt.Sprintf("%+v", x))
}

// next holds Next to this token, with its places.
func next(t *testing.T, s string, from int, want api.Token) {
	t.Helper()
	if got, e := lex.Next(s, from); got != want || e != api.OK {
		t.Errorf("Next(%.80q, %d): %s, %v; not %s", s, from, short(got), e, short(want))
	}
}

// noNext holds Next to this error, and to the zero Token beside it.
func noNext(t *testing.T, s string, from int, err api.Errno) {
	t.Helper()
	if got, e := lex.Next(s, from); got != (api.Token{}) || e != err {
		t.Errorf("Next(%.80q, %d): %s, %v; not %v", s, from, short(got), e, err)
	}
}

// placeless are the tokens without their places.
func placeless(ts []api.Token) []api.Token {
	ts = slices.Clone(ts)
	for i := range ts {
		ts[i].At, ts[i].End = 0, 0
	}
	return ts
}

// all holds All to these tokens, places aside, and what it answers to P10.4.
func all(t *testing.T, s string, want ...api.Token) {
	t.Helper()
	got, e := lex.All(s)
	if e != api.OK || !slices.Equal(placeless(got), want) {
		t.Errorf("All(%.80q): %s, %v; not %s", s, short(got), e, short(want))
	}
	apart(t, s, got)
}

// noAll holds All to this error, and to no list beside it.
func noAll(t *testing.T, err api.Errno, texts ...string) {
	t.Helper()
	for _, s := range texts {
		if got, e := lex.All(s); len(got) > 0 || e != err {
			t.Errorf("All(%.80q): %s, %v; not %v", s, short(got), e, err)
		}
	}
}

// apart holds the tokens of a text to P10.4: each stands behind the one ahead of it, and is itself again when it is cut out.
func apart(t *testing.T, s string, ts []api.Token) {
	t.Helper()
	end := 0
	for _, x := range ts {
		if x.At < end || x.End <= x.At || x.End > len(s) {
			t.Fatalf("All(%.80q): %s does not stand behind %d", s, short(x), end)
		}
		end = x.End
		alone := at(x, 0, x.End-x.At)
		if got, e := lex.All(s[x.At:x.End]); e != api.OK || !slices.Equal(got, row(alone)) {
			t.Fatalf("All(%.80q), cut out of %.80q: %s, %v; not %s", s[x.At:x.End], s, short(got), e, short(alone))
		}
		if x.Kind != api.TokStr && strings.TrimPrefix(s[x.At:x.End], "$") != x.Text {
			t.Fatalf("%s stands in %.80q as %.80q", short(x), s, s[x.At:x.End])
		}
	}
}

// content holds Content to this.
func content(t *testing.T, s string, from int, said string, more bool, end int) {
	t.Helper()
	if gotSaid, gotMore, gotEnd, e := lex.Content(s, from); gotSaid != said || gotMore != more || gotEnd != end || e != api.OK {
		t.Errorf("Content(%.80q, %d): %.80q, %v, %d, %v; not %.80q, %v, %d", s, from, gotSaid, gotMore, gotEnd, e, said, more, end)
	}
}

// noContent holds Content to this error, and to zero values beside it.
func noContent(t *testing.T, s string, from int, err api.Errno) {
	t.Helper()
	if said, more, end, e := lex.Content(s, from); said != "" || more || end != 0 || e != err {
		t.Errorf("Content(%.80q, %d): %.80q, %v, %d, %v; not %v", s, from, said, more, end, e, err)
	}
}

// value holds Value to this.
func value(t *testing.T, s string, from int, quote byte, said string, end int) {
	t.Helper()
	if gotSaid, gotEnd, e := lex.Value(s, from, quote); gotSaid != said || gotEnd != end || e != api.OK {
		t.Errorf("Value(%.80q, %d, %q): %.80q, %d, %v; not %.80q, %d", s, from, quote, gotSaid, gotEnd, e, said, end)
	}
}

// noValue holds Value to this error, and to zero values beside it.
func noValue(t *testing.T, s string, from int, quote byte, err api.Errno) {
	t.Helper()
	if said, end, e := lex.Value(s, from, quote); said != "" || end != 0 || e != err {
		t.Errorf("Value(%.80q, %d, %q): %.80q, %d, %v; not %v", s, from, quote, said, end, e, err)
	}
}
