package lex_test

import (
	"strings"
	"testing"

	"espalier/api"
)

func TestP103Examples(t *testing.T) {
	content(t, "x{{&lt;{y", 0, "x{<", true, 7)
}

func TestP103Content(t *testing.T) {
	for _, c := range []struct {
		s, said string
		more    bool
		left    string
	}{
		{"", "", false, ""}, {"a", "a", true, ""}, {"a b", "a b", true, ""}, {"é\U0001F600", "é\U0001F600", true, ""}, {"a'b\"c", "a'b\"c", true, ""}, {"''", "''", true, ""}, {`""`, `""`, true, ""}, {"(: r :)", "(: r :)", true, ""}, {"a>b", "a>b", true, ""}, {"]]>", "]]>", true, ""}, {"!", "!", true, ""},
		{"<", "", false, "<"}, {"<a>", "", false, "<a>"}, {"a<", "a", true, "<"}, {"a</a>", "a", true, "</a>"}, {"a<<b", "a", true, "<<b"}, {"<![CDATA[", "", false, "<![CDATA["}, {"<!--c-->", "", false, "<!--c-->"},
		{"{", "", false, "{"}, {"}", "", false, "}"}, {"{{", "{", true, ""}, {"}}", "}", true, ""}, {"{{{", "{", true, "{"}, {"}}}", "}", true, "}"}, {"{{{{", "{{", true, ""}, {"}}}}", "}}", true, ""}, {"{}", "", false, "{}"}, {"}{", "", false, "}{"}, {"{{}}", "{}", true, ""}, {"}}{{", "}{", true, ""},
		{"{{}", "{", true, "}"}, {"}}{", "}", true, "{"}, {"{ {", "", false, "{ {"}, {"a{b", "a", true, "{b"}, {"a{{b", "a{b", true, ""}, {"a}b", "a", true, "}b"}, {"a}}b", "a}b", true, ""}, {"a{", "a", true, "{"}, {"a}", "a", true, "}"}, {"a{{", "a{", true, ""}, {"a}}", "a}", true, ""}, {"{{<", "{", true, "<"}, {"{<", "", false, "{<"}, {"a{1}", "a", true, "{1}"},
		{"&lt;", "<", true, ""}, {"&gt;", ">", true, ""}, {"&amp;", "&", true, ""}, {"&quot;", `"`, true, ""}, {"&apos;", "'", true, ""}, {"&#65;", "A", true, ""}, {"&#x41;&#xe9;", "Aé", true, ""}, {"&#123;", "{", true, ""}, {"&#125;&#60;", "}<", true, ""}, {"&#123;{", "{", true, "{"}, {"{{&#123;", "{{", true, ""}, {"&lt;<", "<", true, "<"}, {"&amp;lt;", "&lt;", true, ""}, {"a&lt;b", "a<b", true, ""},
		{"&#32;", " ", true, ""}, {"&#9;&#10;&#13;", "\t\n\r", true, ""}, {" &#32; ", "   ", true, ""}, {" &#xA;<", " \n", true, "<"},
		{" ", " ", false, ""}, {"\t\n\r ", "\t\n\r ", false, ""}, {" <", " ", false, "<"}, {"\n{", "\n", false, "{"}, {" }", " ", false, "}"}, {" {{", " {", true, ""}, {" a", " a", true, ""}, {"a ", "a ", true, ""}, {" a ", " a ", true, ""}, {"\u00a0", "\u00a0", true, ""}, {"\u0085", "\u0085", true, ""}, {"\u3000", "\u3000", true, ""},
		{"\r\n", "\r\n", false, ""}, {"\r", "\r", false, ""}, {"a\r\nb\rc\nd\te", "a\r\nb\rc\nd\te", true, ""}, {"; lt; #65;", "; lt; #65;", true, ""},
	} {
		content(t, c.s, 0, c.said, c.more, len(c.s)-len(c.left))
		content(t, "{<&;"+c.s, 4, c.said, c.more, 4+len(c.s)-len(c.left))
		if c.left != "" {
			content(t, c.s+"&y;<{", 0, c.said, c.more, len(c.s)-len(c.left))
		}
	}
}

// wrong are references that aren't right.
var wrong = []string{"&", "&;", "& ;", "&lt", "&lt ;", "&LT;", "&y;", "&&lt;", "&#;", "&#x;", "&#X41;", "&#6a;", "&#xg;", "&#-65;", "&#+65;", "&#0;", "&#8;", "&#xD800;", "&#xFFFE;", "&#1114112;", "&#4294967361;", "&<", "&{", "&}", "&lt{;", "&\";", "&lt<;", "&#65"}

func TestP103ReferencesThatAreNotRight(t *testing.T) {
	for _, w := range wrong {
		for _, ahead := range []string{"", "a", " ", "{{", "&lt;", "''", `""`} {
			for _, behind := range []string{"", "a", "<", "{"} {
				noContent(t, ahead+w+behind, 0, api.ErrSyntax)
				if ahead != `""` {
					noValue(t, ahead+w+behind, 0, '\'', api.ErrSyntax)
				}
				if ahead != "''" {
					noValue(t, ahead+w+behind, 0, '"', api.ErrSyntax)
				}
			}
		}
		// Behind the end it isn't read.
		content(t, "a<"+w, 0, "a", true, 1)
		content(t, "{"+w, 0, "", false, 0)
		value(t, "a\""+w, 0, '"', "a", 1)
		value(t, "a}"+w, 0, '\'', "a", 1)
	}
}

func TestP103ContentPlaces(t *testing.T) {
	s := "a{{&lt;é}}<b"
	for from, want := range []struct {
		said string
		more bool
		end  int
	}{{"a{<é}", true, 11}, {"{<é}", true, 11}, {"", false, 2}, {"<é}", true, 11}, {"lt;é}", true, 11}, {"t;é}", true, 11}, {";é}", true, 11}, {"é}", true, 11}, {"\xa9}", true, 11}, {"}", true, 11}, {"", false, 10}, {"", false, 11}, {"b", true, 13}, {"", false, 13}} {
		content(t, s, from, want.said, want.more, want.end)
	}
}

func TestP103WithinCharacters(t *testing.T) {
	for _, c := range []string{"é", "×", "\u0085", "\u00a0", "\u2028", "\ufffd", "\U0001F600", "\U0010FFFF"} {
		for from := 1; from < len(c); from++ {
			content(t, c, from, c[from:], true, len(c))
			content(t, c+" &lt;{", from, c[from:]+" <", true, len(c)+5)
			content(t, "<"+c+"<", 1+from, c[from:], true, 1+len(c))
			value(t, c, from, '"', c[from:], len(c))
			value(t, c+"\n''\"", from, '"', c[from:]+" ''", len(c)+3)
			noValue(t, c+"<", from, '\'', api.ErrSyntax)
			noContent(t, c+"&", from, api.ErrSyntax)
		}
	}
}

func TestP103Value(t *testing.T) {
	for _, c := range []struct{ s, said, left string }{
		{"", "", ""}, {"a", "a", ""}, {"a b", "a b", ""}, {"é\U0001F600", "é\U0001F600", ""}, {"(: r :)", "(: r :)", ""}, {"a>b", "a>b", ""}, {"]]>", "]]>", ""}, {"!", "!", ""}, {"/", "/", ""},
		{"Q", "", "Q"}, {"Qa", "", "Qa"}, {"aQ", "a", "Q"}, {"aQb", "a", "Qb"}, {"QQ", "Q", ""}, {"aQQb", "aQb", ""}, {"QQQ", "Q", "Q"}, {"QQQQ", "QQ", ""}, {"QQQQQ", "QQ", "Q"}, {"aQQQ>", "aQ", "Q>"}, {"Q Q", "", "Q Q"}, {"QRQ", "", "QRQ"},
		{"R", "R", ""}, {"RR", "RR", ""}, {"aRRRb", "aRRRb", ""}, {"RQ", "R", "Q"}, {"RQQR", "RQR", ""}, {"Q{", "", "Q{"}, {"QQ{", "Q", "{"},
		{"{", "", "{"}, {"}", "", "}"}, {"{{", "{", ""}, {"}}", "}", ""}, {"{{{", "{", "{"}, {"}}}", "}", "}"}, {"{}", "", "{}"}, {"}{", "", "}{"}, {"{{}}", "{}", ""}, {"a{1}", "a", "{1}"}, {"a}b", "a", "}b"}, {"a{{b}}c", "a{b}c", ""}, {"{{Q", "{", "Q"}, {"}Q", "", "}Q"}, {"{<", "", "{<"}, {"a}<", "a", "}<"}, {"Q<", "", "Q<"}, {"aQ<a>", "a", "Q<a>"},
		{"\t", " ", ""}, {"\n", " ", ""}, {"\r", " ", ""}, {"\r\n", "  ", ""}, {"\t\t\n\n\r\r ", "       ", ""}, {"a\tb\nc\rd\r\ne", "a b c d  e", ""}, {"\nQ", " ", "Q"}, {"\u00a0\u0085\u2028", "\u00a0\u0085\u2028", ""},
		{"&#9;", "\t", ""}, {"&#10;", "\n", ""}, {"&#13;", "\r", ""}, {"&#xA;\n&#xD;\r", "\n \r ", ""}, {"&#32;", " ", ""},
		{"&lt;", "<", ""}, {"&gt;&amp;", ">&", ""}, {"&quot;", `"`, ""}, {"&apos;", "'", ""}, {"&#34;&#39;", `"'`, ""}, {"&quot;Q", `"`, "Q"}, {"&#34;Q&#39;", `"`, "Q&#39;"}, {"QQ&apos;QQ", "Q'Q", ""}, {"&#123;{", "{", "{"}, {"&#60;", "<", ""}, {"&#x41;&#xe9;", "Aé", ""}, {"&amp;lt;", "&lt;", ""}, {"; lt;", "; lt;", ""},
	} {
		for _, quote := range []byte{'"', '\''} {
			other := byte('"' + '\'' - quote)
			in := strings.NewReplacer("Q", string(quote), "R", string(other)).Replace
			s, said, end := in(c.s), in(c.said), len(c.s)-len(c.left)
			value(t, s, 0, quote, said, end)
			value(t, "<&{}"+s, 4, quote, said, 4+end)
			if c.left == "" {
				noValue(t, s+"<", 0, quote, api.ErrSyntax)
				noValue(t, s+"a<"+string(quote), 0, quote, api.ErrSyntax)
				noValue(t, s+"a&y;", 0, quote, api.ErrSyntax)
			} else {
				value(t, s+" <&y;", 0, quote, said, end)
			}
		}
	}
	noValue(t, "<", 0, '"', api.ErrSyntax)
	noValue(t, "<a>\"", 0, '"', api.ErrSyntax)
	noValue(t, "a<b'", 0, '\'', api.ErrSyntax)
}

// special are the characters that don't say themselves, each in Content, in Value of " and in Value of '.
const (
	special      = "&<{}"
	inQuotes     = special + "\"\t\n\r"
	inApostrophe = special + "'\t\n\r"
)

func TestP103AllOtherCharactersSayThemselves(t *testing.T) {
	for n := range rune(0x110000) {
		c := string(n)
		if n < 32 && n != 9 && n != 10 && n != 13 || n >= 0xD800 && n < 0xE000 || n == 0xFFFE || n == 0xFFFF {
			continue
		}
		if !strings.Contains(special, c) {
			content(t, c, 0, c, !strings.Contains("\t\n\r ", c), len(c))
			content(t, "a"+c+c+"<", 1, c+c, !strings.Contains("\t\n\r ", c), 1+2*len(c))
		}
		if !strings.Contains(inQuotes, c) {
			value(t, c+c+"\"", 0, '"', c+c, 2*len(c))
		}
		if !strings.Contains(inApostrophe, c) {
			value(t, c+c+"'", 0, '\'', c+c, 2*len(c))
		}
	}
}

func TestP103ValuePlaces(t *testing.T) {
	s := "a''&lt;é\n'<b"
	for from, want := range []struct {
		said string
		end  int
	}{{"a'<é ", 10}, {"'<é ", 10}, {"", 2}, {"<é ", 10}, {"lt;é ", 10}, {"t;é ", 10}, {";é ", 10}, {"é ", 10}, {"\xa9 ", 10}, {" ", 10}, {"", 10}} {
		value(t, s, from, '\'', want.said, want.end)
		noValue(t, s, from, '"', api.ErrSyntax)
	}
	noValue(t, s, 11, '\'', api.ErrSyntax)
	value(t, s, 12, '\'', "b", 13)
	value(t, s, 13, '\'', "", 13)
}

func TestP103QuotesThatAreNone(t *testing.T) {
	for quote := range 256 {
		if quote == '"' || quote == '\'' {
			value(t, "a", 0, byte(quote), "a", 1)
			continue
		}
		for _, s := range []string{"", "a", string([]byte{'a', byte(quote)}), "a<", "&y;", "{"} {
			noValue(t, s, 0, byte(quote), api.ErrArg)
		}
	}
}
