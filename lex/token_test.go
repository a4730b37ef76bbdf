package lex_test

import (
	"strings"
	"testing"

	"espalier/api"
)

func TestP101Examples(t *testing.T) {
	all(t, "$x+1.5 (: r :) a-b", vari("x"), sign("+"), part("1.5"), name("a-b"))
	all(t, "a::b", name("a"), sign("::"), name("b"))
	all(t, "fn:a", name("fn:a"))
	all(t, `"a""b"`, str(`a"b`))
	for _, s := range []string{"1a", "(:", "$ x", "!"} {
		noAll(t, api.ErrSyntax, s)
		noNext(t, s, 0, api.ErrSyntax)
	}
}

// samples are tokens of each kind, as they stand and as they are.
func samples() map[string]api.Token {
	words := map[string]api.Token{
		"a": name("a"), "xs:integer": name("xs:integer"), "é-1.·": name("é-1.·"), "to": name("to"), "_": name("_"), "a-": name("a-"), "a.": name("a."),
		"$x": vari("x"), "$é-1.": vari("é-1."), "0": whole("0"), "0042": whole("0042"), "1.5": part("1.5"), ".5": part(".5"), "2.": part("2."), "00.00": part("00.00"),
		`"s"`: str("s"), "'s'": str("s"), `""`: str(""), "''": str(""), `"a""b"`: str(`a"b`), "'it''s'": str("it's"), `'&lt;&#65;'`: str("<A"), `"(: $x :)"`: str("(: $x :)"),
	}
	for _, s := range signs {
		words[s] = sign(s)
	}
	return words
}

func TestP101EachKindAlone(t *testing.T) {
	for word, want := range samples() {
		next(t, word, 0, at(want, 0, len(word)))
		all(t, word, want)
		next(t, word, len(word), api.Token{At: len(word), End: len(word)})
	}
}

func TestP101EachKindBehindSpacesAndRemarks(t *testing.T) {
	for _, gap := range []string{" ", "\t", "\n", "\r", "\r\n", " \t\n\r ", "(::)", "(: r :)", "(: (: q :) r :)", " (: r :) ", "(::)(::)", "\n(: \n :)\t(:é:)\r", "(:(::)(::):)", "(:):)", "(:(:):):)", "(:::)", "(::::)", "(:((:)):):)", "(:'\":)"} {
		for word, want := range samples() {
			next(t, gap+word, 0, at(want, len(gap), len(gap+word)))
			next(t, gap+word+gap, 0, at(want, len(gap), len(gap+word)))
			all(t, gap+word+gap, want)
		}
		next(t, gap, 0, api.Token{At: len(gap), End: len(gap)})
		all(t, gap)
	}
}

func TestP101EachKindAheadOfEachOther(t *testing.T) {
	for one, first := range samples() {
		for two, second := range samples() {
			for _, gap := range []string{" ", "\n", "(::)", " (: r :)\t"} {
				all(t, one+gap+two, first, second)
			}
		}
	}
}

func TestP101Names(t *testing.T) {
	for s, want := range map[string][]api.Token{
		"a:b": row(name("a:b")), "a::b": row(name("a"), sign("::"), name("b")), "a:=b": row(name("a"), sign(":="), name("b")), "a:b::c": row(name("a:b"), sign("::"), name("c")), "a:b:=c": row(name("a:b"), sign(":="), name("c")),
		"a::b:c": row(name("a"), sign("::"), name("b:c")), "a::=": row(name("a"), sign("::"), sign("=")), "a:é": row(name("a:é")), "a:_": row(name("a:_")), "a-:b-": row(name("a-:b-")), "a.:b.": row(name("a.:b.")),
		"a-": row(name("a-")), "a--b": row(name("a--b")), "a.": row(name("a.")), "a..": row(name("a..")), "a..b": row(name("a..b")), "a.5": row(name("a.5")), "a-1": row(name("a-1")), "a -1": row(name("a"), sign("-"), whole("1")),
		"a- 1": row(name("a-"), whole("1")), "a1": row(name("a1")), "a·": row(name("a·")), "a+b": row(name("a"), sign("+"), name("b")), "a/b": row(name("a"), sign("/"), name("b")), "a/.": row(name("a"), sign("/"), sign(".")),
		"-a": row(sign("-"), name("a")), ".a": row(sign("."), name("a")), "..a": row(sign(".."), name("a")), "a'b'": row(name("a"), str("b")), "a$b": row(name("a"), vari("b")), "a(b)": row(name("a"), sign("("), name("b"), sign(")")),
		"a(::)b": row(name("a"), name("b")), "a(::):=": row(name("a"), sign(":=")), "a\u0300": row(name("a\u0300")), "\u3000": row(name("\u3000")), "\ufffd": row(name("\ufffd")), "\U0010FFFF\U00010000": row(name("\U0010FFFF\U00010000")),
	} {
		all(t, s, want...)
	}
}

func TestP101ColonsThatAreNoSigns(t *testing.T) {
	for s, first := range map[string]string{"a:": "a", "a :": "a", "a: b": "a", "a : b": "a", "a:b:c": "a:b", "a:b:": "a:b", "a:1": "a", "a:-": "a", "a:.": "a", "a:·": "a", "a:(b)": "a", "a:(::)b": "a", "a(::):b": "a", "a:$b": "a", "a:'b'": "a", "a:×": "a", "é:": "é"} {
		next(t, s, 0, at(name(first), 0, len(first)))
		noAll(t, api.ErrSyntax, s)
	}
	for _, s := range []string{":", ": ", ":a", ":1", ":$a", ":'a'", ":é", ":;", ":)", ":(", ": :", ": =", ":(::):", ":)a"} {
		noNext(t, s, 0, api.ErrSyntax)
		noNext(t, " "+s, 0, api.ErrSyntax)
		noAll(t, api.ErrSyntax, s, "a "+s)
	}
	// The ends of remarks that haven't begun.
	noAll(t, api.ErrSyntax, "(::):)", "a :)", "(: r :) :)")
}

func TestP101Variables(t *testing.T) {
	for s, want := range map[string][]api.Token{
		"$x": row(vari("x")), "$é": row(vari("é")), "$_1": row(vari("_1")), "$a-b": row(vari("a-b")), "$a.": row(vari("a.")), "$a-": row(vari("a-")), "$a·": row(vari("a·")), "$x$y": row(vari("x"), vari("y")), "$x:=1": row(vari("x"), sign(":="), whole("1")),
		"$x::y": row(vari("x"), sign("::"), name("y")), "$x+1": row(vari("x"), sign("+"), whole("1")), "$x/y": row(vari("x"), sign("/"), name("y")), "$x(::)y": row(vari("x"), name("y")), "$x[1]": row(vari("x"), sign("["), whole("1"), sign("]")),
		"1$x": row(whole("1"), vari("x")), "'a'$x": row(str("a"), vari("x")), "$x'a'": row(vari("x"), str("a")), "$if": row(vari("if")),
	} {
		all(t, s, want...)
	}
	for _, s := range []string{"$", "$ ", "$ x", "$\nx", "$:", "$:x", "$1", "$1x", "$-x", "$.x", "$·", "$$", "$$x", "$'x'", "$(::)x", "$(", "$×", "$\u00a0x", "$*"} {
		noNext(t, s, 0, api.ErrSyntax)
		noNext(t, "\n"+s, 0, api.ErrSyntax)
		noAll(t, api.ErrSyntax, s, "a"+s)
	}
	// A colon and a name are no part of it: what is left is no token.
	for _, s := range []string{"$a:b", "$a:", "$a:b:c", "$a:1"} {
		next(t, s, 0, at(vari("a"), 0, 2))
		noNext(t, s, 2, api.ErrSyntax)
		noAll(t, api.ErrSyntax, s)
	}
}

func TestP101Numbers(t *testing.T) {
	for s, want := range map[string][]api.Token{
		"0": row(whole("0")), "1": row(whole("1")), "9": row(whole("9")), "0123456789": row(whole("0123456789")), "007": row(whole("007")), "1.": row(part("1.")), "1.0": row(part("1.0")), ".0": row(part(".0")), ".5": row(part(".5")), "10.25": row(part("10.25")),
		"1..": row(part("1."), sign(".")), "1...": row(part("1."), sign("..")), "1..2": row(part("1."), part(".2")), "1.5.5": row(part("1.5"), part(".5")), "1.5.": row(part("1.5"), sign(".")), ".5.": row(part(".5"), sign(".")), ".5.5": row(part(".5"), part(".5")), "..5": row(sign(".."), whole("5")), "...5": row(sign(".."), part(".5")),
		". 5": row(sign("."), whole("5")), "1 .5": row(whole("1"), part(".5")), "1 . 5": row(whole("1"), sign("."), whole("5")), "1-": row(whole("1"), sign("-")), "1-1": row(whole("1"), sign("-"), whole("1")), "1.-": row(part("1."), sign("-")), ".5-": row(part(".5"), sign("-")), "1-a": row(whole("1"), sign("-"), name("a")),
		"-1": row(sign("-"), whole("1")), "+.5": row(sign("+"), part(".5")), "1 a": row(whole("1"), name("a")), "1(::)a": row(whole("1"), name("a")), "1.(::)a": row(part("1."), name("a")), "1,2": row(whole("1"), sign(","), whole("2")), "1=1": row(whole("1"), sign("="), whole("1")), "1'a'": row(whole("1"), str("a")), "(1)": row(sign("("), whole("1"), sign(")")),
		"1/2": row(whole("1"), sign("/"), whole("2")), "1::": row(whole("1"), sign("::")), "1<2": row(whole("1"), sign("<"), whole("2")),
	} {
		all(t, s, want...)
	}
	for _, number := range []string{"1", "12", "1.", "1.5", ".5", "0", "00"} {
		for _, letter := range []string{"a", "z", "A", "Z", "e", "E", "x", "_", "à", "é", "\u0663", "\u0966", "\uff11", "\u3000", "\ufffd", "\U0001F600"} {
			noNext(t, number+letter, 0, api.ErrSyntax)
			noNext(t, number+letter+"1", 0, api.ErrSyntax)
			noAll(t, api.ErrSyntax, number+letter, number+letter+".", "a "+number+letter)
		}
		// What is neither a letter nor a digit may stand behind, be it a token or not.
		for _, c := range []string{"\u00b2", "\u00b9", "\u00bd", "\u00b7", "\u00aa", "\u00a0", "×", "÷", "!", "#", "&", "`", "\\", "~", "^", "%", "\x7f", ":"} {
			next(t, number+c, 0, at(numeral(number), 0, len(number)))
			noNext(t, number+c, len(number), api.ErrSyntax)
			noAll(t, api.ErrSyntax, number+c)
		}
	}
	noAll(t, api.ErrSyntax, "1.a", "1.e5", "1e5", "1.5a", ".5a", "1a", "0x1", "1.2.3a", "1to 2", "1.é")
}

// numeral is the token of a number.
func numeral(s string) api.Token {
	if strings.Contains(s, ".") {
		return part(s)
	}
	return whole(s)
}

func TestP101NumbersOfVeryManyDigits(t *testing.T) {
	long := strings.Repeat("9", 30000)
	for _, s := range []string{"99999999999999999999", strings.Repeat("0", 100), long, long + ".", "." + long, long + "." + long} {
		all(t, s, numeral(s))
		next(t, " "+s+" ", 0, at(numeral(s), 1, 1+len(s)))
		noNext(t, s+"a", 0, api.ErrSyntax)
	}
}

func TestP101Strings(t *testing.T) {
	for s, said := range map[string]string{
		"": "", "a": "a", "a b": "a b", " ": " ", "é\U0001F600": "é\U0001F600", "(:": "(:", "(: r :)": "(: r :)", "$x": "$x", "1a": "1a", "!": "!", "<a>": "<a>", "{": "{", "{{": "{{", "}": "}", "]]>": "]]>", "\\": "\\", "\\n": "\\n",
		"\n": "\n", "\r": "\r", "\r\n": "\r\n", "\n\r": "\n\r", "\t": "\t", "a\r\nb\rc\nd": "a\r\nb\rc\nd",
		"&lt;": "<", "&gt;": ">", "&amp;": "&", "&quot;": `"`, "&apos;": "'", "&#65;": "A", "&#x41;": "A", "&#xe9;": "é", "&#0010;": "\n", "&#13;": "\r", "&#x10FFFF;": "\U0010FFFF", "&#34;": `"`, "&#39;": "'", "&#38;": "&", "&#38;lt;": "&lt;", "&amp;lt;": "&lt;",
		"a&lt;b&gt;c": "a<b>c", "&lt;&lt;": "<<", "&quot;&quot;": `""`, "&apos;&#39;": "''", ";": ";", "lt;": "lt;", "&lt;;": "<;", "\u00a0": "\u00a0", "\u2028": "\u2028", "\x7f": "\x7f",
	} {
		for _, quote := range []string{`"`, "'"} {
			other := strings.Trim(`"'`, quote)
			all(t, quote+s+quote, str(said))
			all(t, quote+quote+quote+s+quote+quote+quote, str(quote+said+quote))
			all(t, quote+other+s+other+other+quote, str(other+said+other+other))
			all(t, quote+s+quote+" "+quote+s+quote, str(said), str(said))
			all(t, quote+s+quote+other+s+other, str(said), str(said))
			all(t, quote+s+quote+quote+s+quote, str(said+quote+said))
			// With no end.
			for _, open := range []string{quote + s, quote + s + other, quote + s + quote + quote, quote + s + quote + quote + s, quote + quote + quote + s + quote + quote, quote + s + " (: " + other + " :)"} {
				noNext(t, open, 0, api.ErrSyntax)
				noAll(t, api.ErrSyntax, open, "a "+open)
			}
		}
	}
	all(t, `"a"b"c"`, str("a"), name("b"), str("c"))
	all(t, `""""`, str(`"`))
	all(t, "''''''", str("''"))
	all(t, `"" ""`, str(""), str(""))
	all(t, `""''""`, str(""), str(""), str(""))
	noAll(t, api.ErrSyntax, `"`, "'", `"""`, "'''", `"""""`, `"'`, `'"`, `"a'`, "a'", `"a""`)
	next(t, "x'a''b'y", 1, at(str("a'b"), 1, 7))
}

func TestP101StringsWithReferencesThatAreNotRight(t *testing.T) {
	for _, s := range []string{
		"&", "&;", "& ", "&lt", "&lt ;", "& lt;", "&LT;", "&y;", "&nbsp;", "&lt&lt;", "&&lt;", "a&", "&a", "&#;", "&#x;", "&#X41;", "&#65", "&#6a;", "&#xg;", "&# 65;", "&#+65;", "&#-65;", "&#6_5;", "&#0x41;",
		"&#0;", "&#8;", "&#11;", "&#31;", "&#xD800;", "&#57343;", "&#65534;", "&#xFFFF;", "&#1114112;", "&#4294967361;", "&#18446744073709551681;", "&#x10000000000000041;", "&#\u0661;",
	} {
		for _, quote := range []string{`"`, "'"} {
			for _, broken := range []string{quote + s + quote, quote + "a" + s + "b" + quote, quote + s, quote + s + quote + ";", quote + "&lt;" + s + quote} {
				noNext(t, broken, 0, api.ErrSyntax)
				noAll(t, api.ErrSyntax, broken, "a "+broken)
			}
		}
	}
}

func TestP101Remarks(t *testing.T) {
	for _, s := range []string{
		"(::)", "(: :)", "(:(::):)", "(:(:):):)", "(: (: (: :) :) :)", "(: (: :) (: :) :)", "(:::)", "(:):)", "(:)):)", "(:((:)):):)", "(: a :) (: b :) ", "(: \":)", "(: (:' :) :)", "(: '(:' :) :)",
		"(: $ ! : &y; \n é × :)", "(:-:)(:-:)", "(: :::)", "(::::)", "(:(::::):)", "(: <a> { :)", "(:\u00b7:)", "(: ' :)", "(: (: \":)\" :)",
	} {
		next(t, s+"a", 0, at(name("a"), len(s), len(s)+1))
		all(t, s+"a"+s+"b"+s, name("a"), name("b"))
		next(t, "a"+s, 1, api.Token{At: 1 + len(s), End: 1 + len(s)})
	}
	for _, s := range []string{"(:", "(:)", "(:(:):)", "(: ", "(:a", "(: :", "(: (: :)", "(: ) :", "(::", "(:::", "(:=", "(::a", "(:(:", "(:(::)", "(::)(:", "(: r :) (: r", "(:(:(::):)", "(:a:(", "(:((:):)", "(: \":)\"", "(: ':)' :)", "(:é", "(: '(:' :)"} {
		noNext(t, s, 0, api.ErrSyntax)
		noNext(t, " "+s, 0, api.ErrSyntax)
		noNext(t, s+" a", 0, api.ErrSyntax)
		noAll(t, api.ErrSyntax, s, "a "+s, "a"+s+"a")
	}
	// A ( alone is a sign, with the blank or anything else between it and the colon.
	all(t, "( ::", sign("("), sign("::"))
	all(t, "((::)", sign("("))
	all(t, "((::))", sign("("), sign(")"))
	all(t, "(::))", sign(")"))
	all(t, "(a:b)", sign("("), name("a:b"), sign(")"))
}

func TestP101RemarksOfManyLevels(t *testing.T) {
	for _, levels := range []int{1, 2, 100, 16000} {
		s := strings.Repeat("(:", levels) + strings.Repeat(":)", levels)
		next(t, s+"a", 0, at(name("a"), len(s), len(s)+1))
		noNext(t, "(:"+s, 0, api.ErrSyntax)
		noNext(t, s+":)", 0, api.ErrSyntax)
	}
}

func TestP101Signs(t *testing.T) {
	for _, one := range signs {
		next(t, one, 0, at(sign(one), 0, len(one)))
		next(t, one+" ", 0, at(sign(one), 0, len(one)))
		for _, two := range signs {
			all(t, one+" "+two, sign(one), sign(two))
			if strings.HasPrefix(one+two, "(:") {
				noNext(t, one+two, 0, api.ErrSyntax)
				continue
			}
			first := longest(one + two)
			next(t, one+two, 0, at(sign(first), 0, len(first)))
			if rest := strings.TrimPrefix(one+two, first); rest == ":" {
				noAll(t, api.ErrSyntax, one+two)
			} else if rest != "" && longest(rest) == rest {
				all(t, one+two, sign(first), sign(rest))
			}
		}
		all(t, one+"a", sign(one), name("a"))
		if one != "." {
			all(t, one+"1", sign(one), whole("1"))
		}
	}
	all(t, "<<=", sign("<<"), sign("="))
	all(t, "<=<", sign("<="), sign("<"))
	all(t, "<<<", sign("<<"), sign("<"))
	all(t, ">>>=", sign(">>"), sign(">="))
	all(t, "///", sign("//"), sign("/"))
	all(t, ":::=", sign("::"), sign(":="))
	all(t, "...", sign(".."), sign("."))
	all(t, "=!=", sign("="), sign("!="))
	all(t, "||", sign("|"), sign("|"))
	noAll(t, api.ErrSyntax, "!", "! =", "!a", "!!=", ": :", ":::", "=!", "&", "#", "a!")
}

// longest is the longest sign that the text begins with.
func longest(s string) string {
	best := ""
	for _, x := range signs {
		if strings.HasPrefix(s, x) && len(x) > len(best) {
			best = x
		}
	}
	return best
}

// begins are the characters below 192 with which a token begins, or that are passed over.
const begins = "ABCDEFGHIJKLMNOPQRSTUVWXYZabcdefghijklmnopqrstuvwxyz_0123456789()[]{},;./@*+-=<>|? \t\n\r"

func TestP101OfAllCharacters(t *testing.T) {
	for n := range rune(0x110000) {
		c := string(n)
		if n < 32 && !strings.ContainsRune(begins, n) || n >= 0xD800 && n < 0xE000 || n == 0xFFFE || n == 0xFFFF {
			continue
		}
		if n < 192 && !strings.ContainsRune(begins, n) || n == 215 || n == 247 {
			noNext(t, c, 0, api.ErrSyntax)
			noNext(t, " "+c+" a", 0, api.ErrSyntax)
			noNext(t, "(::)"+c+" a", 0, api.ErrSyntax)
		} else if n >= 192 {
			next(t, c, 0, at(name(c), 0, len(c)))
			next(t, "1 "+c+"1", 1, at(name(c+"1"), 2, 3+len(c)))
			noNext(t, "1"+c, 0, api.ErrSyntax)
		}
	}
}

func TestP101Places(t *testing.T) {
	s := "ab (: é :) 'é''x' é1 12.50"
	for from, want := range map[int]api.Token{
		0: at(name("ab"), 0, 2), 1: at(name("b"), 1, 2), 2: at(str("é'x"), 12, 19), 3: at(str("é'x"), 12, 19), 5: at(name("é"), 6, 8), 6: at(name("é"), 6, 8), 10: at(sign(")"), 10, 11), 11: at(str("é'x"), 12, 19), 12: at(str("é'x"), 12, 19),
		13: at(name("é"), 13, 15), 15: at(str(""), 15, 17), 16: at(str("x"), 16, 19), 17: at(name("x"), 17, 18), 19: at(name("é1"), 20, 23), 20: at(name("é1"), 20, 23), 22: at(whole("1"), 22, 23),
		23: at(part("12.50"), 24, 29), 24: at(part("12.50"), 24, 29), 25: at(part("2.50"), 25, 29), 26: at(part(".50"), 26, 29), 27: at(whole("50"), 27, 29), 28: at(whole("0"), 28, 29), 29: {At: 29, End: 29},
	} {
		next(t, s, from, want)
	}
	for _, from := range []int{4, 7, 8, 9, 14, 18, 21} {
		noNext(t, s, from, api.ErrSyntax)
	}
	next(t, "", 0, api.Token{})
	next(t, " \n", 0, api.Token{At: 2, End: 2})
	next(t, " \n", 2, api.Token{At: 2, End: 2})
	next(t, "(::)", 1, at(sign("::"), 1, 3))
	noNext(t, "(::)", 2, api.ErrSyntax)
	noNext(t, "(: (::) :) a", 3, api.ErrSyntax)
	next(t, "(: (::) :)a", 10, at(name("a"), 10, 11))
	next(t, "(: r :) (: q :)", 7, api.Token{At: 15, End: 15})
}

// Within a character of several bytes no token begins, and nothing is passed over.
func TestP101PlacesWithinCharacters(t *testing.T) {
	for _, c := range []string{"é", "×", "\u00b7", "\u00a0", "\u0080", "\u2003", "\ufffd", "\U0001F600", "\U0010FFFF"} {
		for from := 1; from < len(c); from++ {
			noNext(t, c, from, api.ErrSyntax)
			noNext(t, c+"a", from, api.ErrSyntax)
			noNext(t, c+" a", from, api.ErrSyntax)
			noNext(t, "(:"+c+":)", 2+from, api.ErrSyntax)
		}
		next(t, "a "+c+"(::)b", 2+len(c), at(name("b"), 6+len(c), 7+len(c)))
	}
}
