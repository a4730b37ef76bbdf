package lex_test

import (
	"math/rand"
	"strings"
	"testing"

	"espalier/api"
	"espalier/lex"
)

// all and the judge's tests hold every text of theirs to P10.4 too.
func TestP104OfSamples(t *testing.T) {
	for one, first := range samples() {
		for two, second := range samples() {
			s := "(: r :) " + one + "\n" + two + "(::)"
			got, e := lex.All(s)
			if e != api.OK || len(got) != 2 || got[0] != at(first, 8, 8+len(one)) || got[1] != at(second, 9+len(one), 9+len(one)+len(two)) {
				t.Fatalf("All(%q): %s, %v", s, short(got), e)
			}
			apart(t, s, got)
		}
	}
}

func TestP104OfGrownTexts(t *testing.T) {
	g := rand.New(rand.NewSource(104))
	taken := 0
	for range 5000 {
		s := grown(g, 40)
		got, e := lex.All(s)
		apart(t, s, got)
		if e == api.OK {
			taken++
		}
	}
	if taken < 500 {
		t.Errorf("too few of the texts were tokens through and through: %d", taken)
	}
}

// What stands between the tokens is spaces and remarks: without it, or with more of it, the tokens are the same, where they don't run into one another.
func TestP104BetweenTokens(t *testing.T) {
	g := rand.New(rand.NewSource(105))
	for range 2000 {
		s := grown(g, 20)
		got, e := lex.All(s)
		if e != api.OK {
			continue
		}
		var b strings.Builder
		end := 0
		for _, x := range got {
			all(t, s[end:x.At])
			b.WriteString(" (: (::) ' :)\n" + s[x.At:x.End])
			end = x.End
		}
		all(t, s[end:])
		all(t, b.String(), placeless(got)...)
	}
}
