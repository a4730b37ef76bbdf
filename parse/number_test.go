package parse_test

import (
	"strings"
	"testing"

	"espalier/api"
)

// noughts are so many of the digit.
func noughts(count int) string { return strings.Repeat("0", count) }

// nines are so many of the digit.
func nines(count int) string { return strings.Repeat("9", count) }

func TestP111Numbers(t *testing.T) {
	all(t,
		"0", "0",
		"7", "7",
		"007", "7",
		"1.5", "15e-1",
		"1.50", "15e-1",
		"1.", "1e-0",
		"1.0", "1e-0",
		".5", "5e-1",
		"0.", "0e-0",
		".0", "0e-0",
		"00.100", "1e-1",
		nines(18), nines(18),
		noughts(30)+nines(18), nines(18),
		"1"+noughts(17), "1"+noughts(17),
		nines(18)+".", nines(18)+"e-0",
		nines(18)+".0", nines(18)+"e-0",
		nines(9)+"."+nines(9), nines(18)+"e-9",
		nines(17)+".9", nines(18)+"e-1",
		"1.123456789", "1123456789e-9",
		"1.1234567891", "1123456789e-9",
		"1.0000000009", "1e-0",
		".0000000009", "0e-0",
		"."+nines(30), nines(9)+"e-9",
		nines(18)+".0000000009", nines(18)+"e-0",
		"0"+nines(9)+"."+nines(9)+"9", nines(18)+"e-9",
		"-"+nines(18), "(neg "+nines(18)+")",
	)
	over := []string{"1" + noughts(18), nines(19), nines(18) + ".1", nines(18) + ".9", "1" + noughts(18) + ".", "1" + noughts(9) + ".123456789", nines(17) + ".99", "1" + noughts(18) + ".0", nines(40), nines(60000), "00" + nines(19)}
	for _, s := range over {
		refuse(t, api.ErrOver, s, "-"+s, "+"+s, "1+"+s, s+"+1", "("+s+")", "a["+s+"]", "f("+s+")", "f(1,"+s+")", "a/"+s, "/"+s, "//"+s, "1,"+s, "for $x in "+s+" return 1", "some $x in 1 satisfies "+s, "if ("+s+") then 1 else 2", "element {"+s+"} {1}", "text {"+s+"}", "declare variable $x := "+s+"; 1", "declare function f() {"+s+"}; 1")
		refuse(t, api.ErrOver, s+" to", s+")", s+" !", s+"/", "("+s, "("+s+" a", "f("+s+",)", s+"[", s+" cast as xs:float")
	}
	refuse(t, api.ErrOver, "<a>{"+nines(19)+"}</a>", "<a b='{"+nines(19)+"}'/>", "<a>{"+nines(19)+"</b>", "<a b='{"+nines(19))
	// Where no number may stand it can't go on, whatever the number.
	for _, s := range append(over, nines(18), "1."+noughts(10)) {
		refuse(t, api.ErrSyntax, "a "+s, "1 "+s, ". "+s, "$x "+s, "'a' "+s, "()"+s, "element "+s+" {1}", "child::"+s, "@"+s, "for "+s, "for $x "+s, "1 instance of "+s, "1 cast as xs:integer "+s, "if "+s, "if (1) "+s, "declare variable "+s, "declare "+s, "a eq b "+s, "f() "+s, "a[1]"+s, "element("+s+")", "text("+s+")", "<a b="+s+"/>", "<a "+s+"='1'/>", "$"+s, s+"a", s+"é", s+"_")
	}
	hold(t, "<a b='"+nines(19)+"'>"+nines(19)+"</a>", `(direct name=a (dirattr name=b ~"`+nines(19)+`") ~"`+nines(19)+`")`)
	hold(t, "'"+nines(19)+"'", `"`+nines(19)+`"`)
	hold(t, "a"+nines(19), "(step child a"+nines(19)+")")
	refuse(t, api.ErrSyntax, "1e5", "1a", "1.a", "1.5.5a", "1..2", "0x1", "1_000", "1 000", "1,5,", "1'", ".5a", "5é")
}

func TestP111Strings(t *testing.T) {
	all(t,
		`"a"`, `"a"`,
		`'a'`, `"a"`,
		`""`, `""`,
		`''`, `""`,
		`"a""b"`, `"a\"b"`,
		`'a''b'`, `"a'b"`,
		`"''"`, `"''"`,
		`'""'`, `"\"\""`,
		`"&lt;&amp;&#65;&#x42;&quot;&apos;"`, `"<&AB\"'"`,
		"'\r\n\t\n'", `"\r\n\t\n"`,
		"'&#13;'", `"\r"`,
		"'(: r :)'", `"(: r :)"`,
		"'{1}<a/>'", `"{1}<a/>"`,
		"'é😀'", `"é😀"`,
		"'for', \"let\"", `(seq "for" "let")`,
		"'a' = 'b'", `(geq "a" "b")`,
	)
	refuse(t, api.ErrSyntax, "'", `"`, "'a", `"a'`, "'a''", "'&'", "'&x;'", "'&#0;'", "'a' 'b'", "'a'b", "'('1", "f('a", "'for' $x in 1 return 2", "1 'to' 2", "1 '+' 2", "f'('1)", "a'['1]", "('1)'")
}

// A text of one string, whatever its characters, is that string; what is printed of it is read as it again.
func TestP112Characters(t *testing.T) {
	for c := rune(0); c < 0x900; c++ {
		if c < 32 && c != 9 && c != 10 && c != 13 {
			refuse(t, api.ErrSyntax, "'"+string(c)+"'")
			continue
		}
		m := taken(t, `"`+strings.NewReplacer(`"`, `""`, "&", "&amp;").Replace("a"+string(c)+string(c)+"'")+`"`)
		if m.Body.Val != (api.Atom{Kind: api.Str, S: "a" + string(c) + string(c) + "'"}) {
			t.Errorf("%q: %s", c, show(m.Body))
		}
	}
}
