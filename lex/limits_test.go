package lex_test

import (
	"math"
	"strings"
	"testing"

	"espalier/api"
)

// none holds all four calls to ErrArg at this place; All, which has no place, where it is asked for.
func none(t *testing.T, s string, from int, wholeText bool) {
	t.Helper()
	noNext(t, s, from, api.ErrArg)
	noContent(t, s, from, api.ErrArg)
	for _, quote := range []byte{'"', '\'', 'x', 0} {
		noValue(t, s, from, quote, api.ErrArg)
	}
	if wholeText {
		noAll(t, api.ErrArg, s)
	}
}

func TestP101PlacesThatAreNone(t *testing.T) {
	for _, s := range []string{"", "a", "ab", "é", " ", "(:", "!", "&", "<", "\"a\""} {
		for _, from := range []int{-1, -2, math.MinInt, len(s) + 1, len(s) + 2, math.MaxInt} {
			none(t, s, from, false)
		}
		next(t, s, len(s), api.Token{At: len(s), End: len(s)})
		content(t, s, len(s), "", false, len(s))
		value(t, s, len(s), '"', "", len(s))
	}
}

// What isn't valid isn't read, wherever it stands and from wherever the text is read.
func TestP101TextsThatAreNotValid(t *testing.T) {
	for _, b := range bad {
		for _, s := range []string{b, "a " + b, b + " a", "!" + b, "'" + b + "'", "(:" + b + ":)", "a<{" + b, "&y;" + b} {
			for from := -1; from <= len(s)+1; from++ {
				none(t, s, from, true)
			}
		}
	}
}

func TestP101TextsOfMaxQueryBytes(t *testing.T) {
	const most = 65536
	letters, blanks := strings.Repeat("a", most), strings.Repeat(" ", most)
	all(t, letters, name(letters))
	next(t, letters, most-1, at(name("a"), most-1, most))
	all(t, blanks)
	next(t, blanks, 0, api.Token{At: most, End: most})
	content(t, letters, 0, letters, true, most)
	content(t, blanks, 0, blanks, false, most)
	value(t, letters, 0, '"', letters, most)
	value(t, strings.Repeat("\n", most), 0, '\'', blanks, most)
	for _, s := range []string{letters + "a", blanks + " ", strings.Repeat("é", most/2) + "a", strings.Repeat("a", most-1) + "é", blanks + "!", "(:" + blanks, strings.Repeat("\xff", most+1), strings.Repeat("a", 2*most), "<" + letters} {
		none(t, s, 0, true)
		none(t, s, 1, true)
		none(t, s, len(s), true)
	}
}

// Every one of these is as long as a text may be, and read in one go.
func TestP101LongTexts(t *testing.T) {
	const most = 65536
	inner := strings.Repeat("b", most-2)
	all(t, `"`+inner+`"`, str(inner))
	all(t, "$"+inner+"b", vari(inner+"b"))
	all(t, strings.Repeat(`"`, most), str(strings.Repeat(`"`, most/2-1)))
	all(t, "'"+strings.Repeat("&lt;", most/4-1)+" '", str(strings.Repeat("<", most/4-1)+" "))
	all(t, strings.Repeat("(:", most/4)+strings.Repeat(":)", most/4))
	all(t, strings.Repeat("(::)", most/4))
	all(t, strings.Repeat("9", most), whole(strings.Repeat("9", most)))
	all(t, strings.Repeat("9", most-1)+".", part(strings.Repeat("9", most-1)+"."))
	all(t, "a:"+inner, name("a:"+inner))
	content(t, strings.Repeat("{", most), 0, strings.Repeat("{", most/2), true, most)
	content(t, strings.Repeat("&#x20;", most/6), 0, strings.Repeat(" ", most/6), true, most/6*6)
	value(t, strings.Repeat("'", most-1), 0, '\'', strings.Repeat("'", most/2-1), most-2)
	noAll(t, api.ErrSyntax, strings.Repeat("(:", most/2), "'"+inner+"b", "'"+strings.Repeat("''", most/2-1)+"a", strings.Repeat("9", most-1)+"a", strings.Repeat("a:", most/2), "'&"+inner)
	noContent(t, "&"+inner, 0, api.ErrSyntax)
	noContent(t, "&#"+strings.Repeat("0", most-3)+";", 0, api.ErrSyntax)
	noValue(t, inner+"b<", 0, '"', api.ErrSyntax)
}

// Many short tokens: a text is looked through once, not once from each of them.
func TestP102ManyTokens(t *testing.T) {
	const most = 65536
	for _, one := range []string{"-", "+", "(", "{", "?", "*", "@", "|", ",", "[", ";"} {
		all(t, strings.Repeat(one, most), many(sign(one), most)...)
	}
	all(t, strings.Repeat(".1", most/2), many(part(".1"), most/2)...)
	all(t, strings.Repeat("1 ", most/2), many(whole("1"), most/2)...)
	all(t, strings.Repeat("$a", most/2), many(vari("a"), most/2)...)
	all(t, strings.Repeat("a ", most/2), many(name("a"), most/2)...)
	all(t, strings.Repeat("''\n", most/3), many(str(""), most/3)...)
	all(t, strings.Repeat("..", most/2), many(sign(".."), most/2)...)
	all(t, strings.Repeat("?(::)", most/5), many(sign("?"), most/5)...)
}

// many are so many tokens, all the same.
func many(x api.Token, count int) []api.Token {
	ts := make([]api.Token, count)
	for i := range ts {
		ts[i] = x
	}
	return ts
}
