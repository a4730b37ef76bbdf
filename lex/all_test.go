package lex_test

import (
	"math/rand"
	"slices"
	"strings"
	"testing"

	"espalier/api"
	"espalier/lex"
)

func TestP102Places(t *testing.T) {
	s := " for $i in(: r :)doc('d')//item[ .5 ]\n"
	want := row(at(name("for"), 1, 4), at(vari("i"), 5, 7), at(name("in"), 8, 10), at(name("doc"), 17, 20), at(sign("("), 20, 21), at(str("d"), 21, 24), at(sign(")"), 24, 25),
		at(sign("//"), 25, 27), at(name("item"), 27, 31), at(sign("["), 31, 32), at(part(".5"), 33, 35), at(sign("]"), 36, 37))
	if got, e := lex.All(s); e != api.OK || !slices.Equal(got, want) {
		t.Errorf("All(%q): %s, %v", s, short(got), e)
	}
	apart(t, s, want)
}

func TestP102Queries(t *testing.T) {
	all(t, `declare function local:f($n as xs:integer) as xs:integer {if ($n le 1) then 1 else $n * local:f($n - 1)}; local:f(5)`,
		name("declare"), name("function"), name("local:f"), sign("("), vari("n"), name("as"), name("xs:integer"), sign(")"), name("as"), name("xs:integer"), sign("{"),
		name("if"), sign("("), vari("n"), name("le"), whole("1"), sign(")"), name("then"), whole("1"), name("else"), vari("n"), sign("*"), name("local:f"), sign("("), vari("n"), sign("-"), whole("1"), sign(")"), sign("}"), sign(";"),
		name("local:f"), sign("("), whole("5"), sign(")"))
	all(t, `let $x:=1 div 0 return $x/@price[.!=2]|../text()>>$x<<.`,
		name("let"), vari("x"), sign(":="), whole("1"), name("div"), whole("0"), name("return"), vari("x"), sign("/"), sign("@"), name("price"), sign("["), sign("."), sign("!="), whole("2"), sign("]"),
		sign("|"), sign(".."), sign("/"), name("text"), sign("("), sign(")"), sign(">>"), vari("x"), sign("<<"), sign("."))
	all(t, `<a b="1{2}"> {3}</a>`, sign("<"), name("a"), name("b"), sign("="), str("1{2}"), sign(">"), sign("{"), whole("3"), sign("}"), sign("<"), sign("/"), name("a"), sign(">"))
	all(t, `$a-1 -$b+-2.5*(1,2)`, vari("a-1"), sign("-"), vari("b"), sign("+"), sign("-"), part("2.5"), sign("*"), sign("("), whole("1"), sign(","), whole("2"), sign(")"))
	all(t, "child::a/ancestor-or-self::node()?", name("child"), sign("::"), name("a"), sign("/"), name("ancestor-or-self"), sign("::"), name("node"), sign("("), sign(")"), sign("?"))
}

func TestP102None(t *testing.T) {
	for _, s := range []string{"", " ", "\t\n\r ", "(::)", " (: r :) ", "(: (: :) :)(::)\n"} {
		all(t, s)
	}
}

// Whatever stands ahead of and behind what is no token, there is no list.
func TestP102TheFirstError(t *testing.T) {
	for _, wrong := range []string{"!", "$", "1a", "(:", "'", `"&y;"`, ":", "#", "×", "$ x", "a:b:c", ".5x"} {
		for word := range samples() {
			noAll(t, api.ErrSyntax, wrong, word+" "+wrong, word+" "+word+"\n"+wrong, wrong+" "+strings.ReplaceAll(word, "'", ""))
		}
	}
}

func TestP102IsNextFromTokenToToken(t *testing.T) {
	g := rand.New(rand.NewSource(102))
	for range 2000 {
		s := grown(g, 12)
		got, e := lex.All(s)
		from, n := 0, 0
		for {
			x, err := lex.Next(s, from)
			if err != api.OK {
				if e != err || len(got) > 0 {
					t.Fatalf("All(%q): %s, %v; not %v, as Next at %d", s, short(got), e, err, from)
				}
				break
			}
			if x.Kind == api.TokEnd {
				if e != api.OK || n != len(got) {
					t.Fatalf("All(%q): %s, %v; not %d tokens", s, short(got), e, n)
				}
				break
			}
			if e == api.OK && (n >= len(got) || got[n] != x) {
				t.Fatalf("All(%q): %s; not %s at %d", s, short(got), short(x), n)
			}
			from, n = x.End, n+1
		}
	}
}

func TestP102NewMemory(t *testing.T) {
	s := "a $b 1 .5 'c' ("
	first, _ := lex.All(s)
	want := slices.Clone(first)
	second, _ := lex.All(s)
	for i := range first[:cap(first)] {
		first[:cap(first)][i] = api.Token{}
	}
	third, _ := lex.All(s)
	if !slices.Equal(second, want) || !slices.Equal(third, want) {
		t.Errorf("two answers share memory: %s, %s", short(second), short(third))
	}
}

// grown is a text of up to so many words, of which most are tokens.
func grown(g *rand.Rand, most int) string {
	words := append(slices.Clone(signs), "a", "xs:a", "é-1.·", "to", "$x", "$é", "0", "12", "1.", "1.5", ".5", `""`, "'a''b'", `"&lt;&#10;"`, "' (: '", "\"\r\n\"", "(::)", "(: r (: q :) :)", " ", "\n", "\t", "\r\n", "-", "a:", "1", "a")
	var b strings.Builder
	for range g.Intn(most + 1) {
		b.WriteString(words[g.Intn(len(words))])
		if g.Intn(3) > 0 {
			b.WriteString(" ")
		}
	}
	return b.String()
}
