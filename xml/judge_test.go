package xml_test

import (
	"fmt"
	"math/big"
	"regexp"
	"strings"
	"testing"
	"unicode/utf8"

	"espalier/api"
)

// The chapter's form once more, by regular expressions of whole tags and a row of open elements.
const (
	letters = `A-Za-z_\x{C0}-\x{D6}\x{D8}-\x{F6}\x{F8}-\x{10FFFF}`
	word    = `[` + letters + `][` + letters + `0-9.\x{B7}-]*`
	gap     = `[ \t\n]`
	pair    = gap + `+(` + word + `)` + gap + `*=` + gap + `*("[^<"]*"|'[^<']*')`
)

var (
	lineEnd   = regexp.MustCompile(`\r\n?`)
	comments  = regexp.MustCompile(`^<!--((?:[^-]|-[^-])*)-->`)
	cdata     = regexp.MustCompile(`(?s)^<!\[CDATA\[(.*?)\]\]>`)
	begun     = regexp.MustCompile(`^<` + word)
	tag       = regexp.MustCompile(`^<(` + word + `)((?:` + pair + `)*)` + gap + `*(/?)>`)
	pairs     = regexp.MustCompile(pair)
	endTag    = regexp.MustCompile(`^</(` + word + `)` + gap + `*>`)
	ref       = regexp.MustCompile(`^&(?:(lt|gt|amp|quot|apos)|#([0-9]+)|#x([0-9A-Fa-f]+));`)
	said      = regexp.MustCompile(`^[^<&]+`)
	plain     = regexp.MustCompile(`^[^&]+`)
	gaps      = regexp.MustCompile(`^` + gap + `*$`)
	tabOrLF   = regexp.MustCompile(`[\t\n]`)
	meant     = map[string]string{"lt": "<", "gt": ">", "amp": "&", "quot": `"`, "apos": "'"}
	xmlPoints = [][2]int64{{9, 10}, {13, 13}, {32, 55295}, {57344, 65533}, {65536, 1114111}}
)

func isXML(n *big.Int) bool {
	for _, p := range xmlPoints {
		if n.Cmp(big.NewInt(p[0])) >= 0 && n.Cmp(big.NewInt(p[1])) <= 0 {
			return true
		}
	}
	return false
}

func isValid(s string) bool {
	return utf8.ValidString(s) && !strings.ContainsFunc(s, func(c rune) bool { return !isXML(big.NewInt(int64(c))) })
}

// meaning is what a reference, as ref finds it, stands for.
func meaning(m []string) (string, bool) {
	if m[1] != "" {
		return meant[m[1]], true
	}
	n := new(big.Int)
	if m[2] != "" {
		n.SetString(m[2], 10)
	} else {
		n.SetString(m[3], 16)
	}
	return string(rune(n.Int64())), isXML(n)
}

// value is what a value within its quotes says.
func value(s string) (string, bool) {
	all := ""
	for s != "" {
		if m := ref.FindStringSubmatch(s); m != nil {
			c, ok := meaning(m)
			if !ok {
				return "", false
			}
			all, s = all+c, s[len(m[0]):]
		} else if p := plain.FindString(s); p != "" {
			all, s = all+tabOrLF.ReplaceAllString(p, " "), s[len(p):]
		} else {
			return "", false
		}
	}
	return all, true
}

// open is the row of a Doc and the elements that have begun and not ended.
type open []api.Tree

func (o open) put(t api.Tree) {
	last := &o[len(o)-1]
	last.Kids = append(last.Kids, t)
}

// say puts characters into the innermost element, merged with a Text that stands there last.
func (o open) say(s string) bool {
	if len(o) == 1 {
		return false
	}
	if kids := o[len(o)-1].Kids; s != "" && len(kids) > 0 && kids[len(kids)-1].Kind == api.Text {
		kids[len(kids)-1].Value += s
	} else if s != "" {
		o.put(text(s))
	}
	return true
}

func (o open) close() open {
	t := o[len(o)-1]
	o[:len(o)-1].put(t)
	return o[:len(o)-1]
}

// begin puts an element's tag, as tag finds it.
func (o open) begin(m []string) (open, bool) {
	t := elem(m[1])
	names := map[string]bool{}
	for _, p := range pairs.FindAllStringSubmatch(m[2], -1) {
		v, ok := value(p[2][1 : len(p[2])-1])
		if !ok || names[p[1]] {
			return nil, false
		}
		names[p[1]] = true
		t.Attrs = append(t.Attrs, api.Pair{Name: p[1], Value: v})
	}
	o = append(o, t)
	if m[5] == "/" {
		o = o.close()
	}
	return o, true
}

// next puts what stands ahead in left, of which left is the rest then.
func (o open) next(left string) (open, string, bool) {
	ok := true
	if m := comments.FindStringSubmatch(left); m != nil {
		o.put(comment(m[1]))
		return o, left[len(m[0]):], true
	} else if m := cdata.FindStringSubmatch(left); m != nil {
		return o, left[len(m[0]):], o.say(m[1])
	} else if m := ref.FindStringSubmatch(left); m != nil {
		c, ok := meaning(m)
		return o, left[len(m[0]):], ok && o.say(c)
	} else if m := endTag.FindStringSubmatch(left); m != nil {
		if ok = len(o) > 1 && o[len(o)-1].Name == m[1]; ok {
			o = o.close()
		}
		return o, left[len(m[0]):], ok
	} else if m := tag.FindStringSubmatch(left); m != nil {
		if len(o) == 1 && o.elements() > 0 {
			return o, "", false
		}
		o, ok = o.begin(m)
		return o, left[len(m[0]):], ok
	} else if m := said.FindString(left); m != "" {
		return o, left[len(m):], !strings.Contains(m, "]]>") && (o.say(m) || gaps.MatchString(m))
	}
	return o, "", false
}

// elements is how many elements stand in the Doc that have ended.
func (o open) elements() int {
	n := 0
	for _, t := range o[0].Kids {
		if t.Kind == api.Elem {
			n++
		}
	}
	return n
}

// judge is what Parse should answer.
func judge(s string) (api.Tree, api.Errno) {
	if len(s) > 1048576 {
		return api.Tree{}, api.ErrLong
	}
	if !isValid(s) {
		return api.Tree{}, api.ErrXML
	}
	left, o, ok := lineEnd.ReplaceAllString(s, "\n"), open{doc()}, true
	for left != "" {
		if len(o) == 64 && begun.MatchString(left) {
			return api.Tree{}, api.ErrNest
		}
		if o, left, ok = o.next(left); !ok {
			return api.Tree{}, api.ErrXML
		}
	}
	if len(o) > 1 || o.elements() != 1 {
		return api.Tree{}, api.ErrXML
	}
	return o[0], api.OK
}

// rows goes through the rows of up to so many of these words.
func rows(most int, words []string, do func(row string)) {
	do("")
	if most > 0 {
		for _, w := range words {
			rows(most-1, words, func(row string) { do(w + row) })
		}
	}
}

// counts is how often Parse answered what.
type counts map[api.Errno]int

// judged holds Parse to the judge.
func (c counts) judged(t *testing.T, s string) {
	t.Helper()
	want, err := judge(s)
	c[err]++
	if !holds(s, want, err) {
		t.Fatalf("%s; the judge says %v, %s", told(s), err, short(fmt.Sprintf("%+v", want)))
	}
}

// both asks for as many documents and as many texts that are none among what was judged.
func (c counts) both(t *testing.T, documents, others int) {
	t.Helper()
	if c[api.OK] < documents || c[api.ErrXML] < others {
		t.Errorf("of what was judged too few were documents, or too few weren't: %v", c)
	}
}

func TestP81RowsOfTags(t *testing.T) {
	c := counts{}
	rows(6, []string{"<a>", "</a>", "<b>", "</b>", "<a/>", "t", " ", "<!--c-->"}, func(row string) { c.judged(t, row) })
	c.both(t, 100, 1000)
}

func TestP81RowsInATag(t *testing.T) {
	c := counts{}
	rows(6, []string{" ", "x", "=", `"`, "'", "y", "/"}, func(row string) {
		c.judged(t, "<a"+row+">")
		c.judged(t, "<a"+row+"/>")
	})
	rows(4, []string{" ", "\n", "\r", "\t", "x", "1", "=", `"`, "'", "<", ">", "&", "&lt;", "]]>", "--"}, func(row string) {
		c.judged(t, `<a x="`+row+`/>`)
		c.judged(t, "<a x='"+row+"/>")
		c.judged(t, `<a x="`+row+`"/>`)
	})
	c.both(t, 1000, 1000)
}

func TestP81RowsInAnEndTag(t *testing.T) {
	c := counts{}
	rows(4, []string{" ", "\n", "\t", "a", "b", ">", "/", "<", "1", `x="1"`}, func(row string) {
		c.judged(t, "<ab></"+row)
		c.judged(t, "<a></a"+row)
	})
	c.both(t, 10, 1000)
}

func TestP81RowsInContent(t *testing.T) {
	c := counts{}
	rows(5, []string{"]", ">", "x", "&#93;", "&gt;", "<![CDATA[", "<b/>", "<!--", "-->"}, func(row string) { c.judged(t, "<a>"+row+"</a>") })
	rows(4, []string{"\r", "\n", "\t", " ", "&#10;", "&#13;", "<![CDATA[", "]]>", "<!--", "-->"}, func(row string) { c.judged(t, "<a>"+row+"</a>") })
	c.both(t, 1000, 1000)
}

func TestP81RowsInComments(t *testing.T) {
	c := counts{}
	rows(6, []string{"-", ">", "<", "!", "c"}, func(row string) {
		c.judged(t, "<a><!--"+row+"--></a>")
		c.judged(t, "<!--"+row+"--><a/>")
		c.judged(t, "<a/><!"+row)
	})
	c.both(t, 1000, 1000)
}

func TestP81RowsInReferences(t *testing.T) {
	c := counts{}
	rows(4, []string{"#", "x", "X", "4", "1", "A", "f", "g", "l", "t", ";", " ", "+", "-", "_", "0", "apos"}, func(row string) {
		c.judged(t, "<a>&"+row+";</a>")
	})
	rows(5, []string{"0", "1", "5", "6", "F", "d", "D", "e"}, func(row string) {
		c.judged(t, "<a>&#x"+row+";</a>")
		c.judged(t, "<a x='&#1"+row+";'/>")
	})
	rows(3, []string{"lt", "gt", "amp", "quot", "apos", "&", ";", "#", "x", "LT"}, func(row string) {
		c.judged(t, "<a>"+row+"</a>")
		c.judged(t, "<a>&"+row+"</a>")
		c.judged(t, `<a x="&`+row+`"/>`)
	})
	c.both(t, 1000, 1000)
}

func TestP81RowsOutside(t *testing.T) {
	c := counts{}
	words := []string{" ", "\n", "\r", "\t", "<!--c-->", "<!--", "-->", "x", "<b/>", "&#32;", "<![CDATA[]]>", "]]>", "\u00a0", "\ufeff"}
	rows(2, words, func(ahead string) {
		rows(2, words, func(behind string) { c.judged(t, ahead+"<a/>"+behind) })
	})
	rows(4, words, func(row string) { c.judged(t, row) })
	c.both(t, 100, 1000)
}

// Each place of a document is cut out, doubled, and made something else, by turns.
func TestP81Changed(t *testing.T) {
	c := counts{}
	for _, s := range []string{
		"<!--c--> <a x=\"1\" y = '&#10;\n&lt;'>t&#x41;<![CDATA[<]]]]>]]<b/>\r\n<!----><c ></c\t>u</a>\n<!--d-->",
		"<shop><item price=\"3\">tea</item><item price=\"10\">pot</item></shop>",
		"<é-1.·><_ A='\"' B=\"'\">&amp;&#0065;&quot;</_>\r\r\n</é-1.·>\r",
		in(63, "<b x='1' x='2'/>"),
	} {
		c.judged(t, s)
		for i := range len(s) {
			c.judged(t, s[:i])
			c.judged(t, s[i:])
			c.judged(t, s[:i]+s[i+1:])
			for _, w := range []string{"<", ">", "&", "/", "=", "\"", "'", " ", "\n", "\r", "-", ";", "a", "A", "1", "]]>", "<!--c-->", "<b/>", "&lt;", "\x00", "\xff", "é"} {
				c.judged(t, s[:i]+w+s[i:])
				c.judged(t, s[:i]+w+s[i+1:])
			}
		}
	}
	c.both(t, 1000, 1000)
}
