package serial_test

import (
	"math/rand"
	"strings"
	"testing"

	"espalier/api"
	"espalier/char"
	"espalier/node"
	"espalier/serial"
	"espalier/xml"
)

func TestP93Examples(t *testing.T) {
	back(t, doc(with(elem("a", text("1>0")), "x", "<")))
	back(t, doc(elem("b")))
	back(t, doc(with(elem("shop", with(elem("item", text("tea")), "price", "3"), with(elem("item", text("pot")), "price", "10")))))
}

func TestP93EachKind(t *testing.T) {
	for _, kid := range []api.Tree{text("t"), text(" "), text("\n"), comment(""), comment("c"), elem("b"), elem("b", text("t")), elem("b", comment(""))} {
		back(t, doc(elem("a", kid)))
		back(t, doc(with(elem("a", kid), "x", "", "y", " ")))
		back(t, doc(elem("a", kid, elem("b"), kid)))
		back(t, doc(elem("a", elem("b", kid), comment("c"), kid)))
		if kid.Kind != api.Text {
			back(t, doc(elem("a", kid, kid)))
			back(t, doc(elem("a", text("t"), kid, text("u"), kid, text(" "))))
		}
	}
}

func TestP93CommentsOutside(t *testing.T) {
	cs := []api.Tree{comment(""), comment(" "), comment("c"), comment("-c"), comment(">"), comment("->"), comment("\n\t"), comment("<a>&x;]]>")}
	for _, c := range cs {
		back(t, doc(c, elem("a")))
		back(t, doc(elem("a"), c))
		back(t, doc(c, elem("a", c), c))
		for _, d := range cs {
			back(t, doc(c, d, elem("a", c, text("t"), d), d, c, c))
		}
	}
}

// spots is a document with the text in each place that may have it.
func spots(s string) api.Tree {
	t := with(elem("a", text(s), with(elem("b"), "x", s), text(s), elem("b", text(s))), "x", s, "y", s)
	if c := strings.ReplaceAll(s, "\r", "") + "c"; !strings.Contains(c, "--") {
		return doc(comment(c), elem("a", comment(c), t), comment(c))
	}
	return doc(t)
}

// What is read as something else, or made another, where it stands by itself.
func TestP93TextsThatCount(t *testing.T) {
	words := []string{"\t", "\n", "\r", " ", "<", ">", "&", "\"", "'", "]", "-", "a", ";", "#", "\u0085", "\u2028", "\ufffd", "\U0010FFFF", "&lt;", "&#13;", "&#xD;", "]]>", "<![CDATA[", "<!--", "-->", "/>", "</a>", "=\""}
	for _, a := range words {
		back(t, spots(a))
		for _, b := range words {
			back(t, spots(a+b))
			for _, c := range words {
				back(t, spots(a+b+c))
			}
		}
	}
}

// Every character is read again, each of the first by itself, and all of them in one text.
func TestP93EveryCharacter(t *testing.T) {
	var all strings.Builder
	for n := range 0x110000 {
		c, e := char.Text(n)
		if e != api.OK {
			continue
		}
		if n < 0x3100 || n > 0xd7f0 && n < 0xe010 || n > 0xfff0 && n < 0x10010 {
			back(t, spots(c))
			back(t, spots("a"+c+"\n"))
		}
		if n < 0x8000 {
			all.WriteString(c)
		}
	}
	back(t, doc(elem("a", text(all.String()))))
	back(t, doc(with(elem("a"), "x", all.String())))
	back(t, doc(elem("a", comment(strings.NewReplacer("\r", "", "-", "").Replace(all.String())))))
}

// Elements that lie in up to 62 others, with and without kids and attributes, as first and as last kids.
func TestP93Nesting(t *testing.T) {
	for others := range 63 {
		for _, inner := range []api.Tree{elem("b"), elem("b", text("t")), elem("b", comment("c")), with(elem("b"), "x", "1"), with(elem("b", text("t"), comment("c"), text("u")), "x", "1")} {
			back(t, doc(in(others, inner)))
			if others > 0 {
				back(t, doc(comment("c"), elem("a", text("t"), in(others-1, inner), text("u"), in(others-1, inner), elem("c"))))
			}
		}
	}
	// One more is a right tree that has a form, but isn't read.
	x := doc(in(63, elem("b")))
	s, e := serial.Tree(x)
	if _, f := xml.Parse(s); !node.Right(x) || e != api.OK || f != api.ErrNest {
		t.Errorf("elements in 63 others: %v, %v, %v", node.Right(x), e, f)
	}
}

// full are documents whose forms have so many bytes.
func full(size int) []api.Tree {
	long := func(c, form string, around int) string {
		count := (size - around) / len(form)
		return strings.Repeat(c, count) + strings.Repeat("a", size-around-count*len(form))
	}
	around := len(`<a x=""/>`)
	ts := []api.Tree{
		doc(elem(strings.Repeat("a", size-3))),
		doc(elem(strings.Repeat("b", (size-len("<></>?"))/2), text(strings.Repeat("t", 1+size%2)))),
		doc(elem("a", comment(long("c", "c", len("<a><!----></a>"))))),
		doc(comment(long("\n", "\n", len("<!----><a/>"))), elem("a")),
		doc(elem("a"), comment(long("é", "é", len("<!----><a/>")))),
	}
	for _, c := range []string{"t", "<", ">", "&", "\r", "\"", "\t", "\n", "é", "\U0001F600"} {
		ts = append(ts, doc(elem("a", text(long(c, spelling().Replace(c), len("<a></a>"))))),
			doc(with(elem("a"), "x", long(c, quoting().Replace(c), around))))
	}
	var kids []api.Tree
	for range size/len("<b/><!---->") - 1 {
		kids = append(kids, elem("b"), comment(""))
	}
	left := size - len("<a></a>") - len(kids)/2*len("<b/><!---->")
	return append(ts, doc(elem("a", append(kids, text(strings.Repeat("t", left)))...)))
}

// A form of just MaxXML bytes is read again; a longer one there is, but it isn't read.
func TestP93Length(t *testing.T) {
	for _, x := range full(api.MaxXML) {
		if s := back(t, x); len(s) != api.MaxXML {
			t.Errorf("%q: %d bytes", short(s), len(s))
		}
	}
	for _, x := range full(api.MaxXML + 1) {
		s, e := serial.Tree(x)
		if _, f := xml.Parse(s); len(s) != api.MaxXML+1 || e != api.OK || f != api.ErrLong {
			t.Errorf("%q: %d bytes, %v, %v", short(s), len(s), e, f)
		}
	}
}

func TestP93GrownDocuments(t *testing.T) {
	g := grower{rand.New(rand.NewSource(97)), 0, 0}
	for _, depth := range []int{0, 1, 2, 3, 4, 5, 6} {
		for range 600 {
			x := g.document(depth)
			if !node.Right(x) {
				t.Fatal("a document that isn't right has grown")
			}
			s := back(t, x)
			// What is written of what was read is what was read: in a store, too.
			n, e := xml.Parse(s)
			st := store(t, n)
			if again, f := serial.Items(st, api.Item{Node: 1}); again != s || e != api.OK || f != api.OK {
				t.Fatalf("written %q, read and written again %q, %v, %v", short(s), short(again), e, f)
			}
		}
	}
}

// Deep documents of which each element has grown parts.
func TestP93GrownDeep(t *testing.T) {
	g := grower{rand.New(rand.NewSource(98)), 0, 0}
	for range 200 {
		x := g.elem(0)
		for range 62 {
			around := g.elem(1)
			around.Kids = append(around.Kids, x)
			if g.odds(50) {
				around.Kids = append(around.Kids, comment("c"), text("\r"))
			}
			x = around
		}
		back(t, doc(g.comment(), x, g.comment()))
	}
}
