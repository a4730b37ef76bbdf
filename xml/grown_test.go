package xml_test

import (
	"fmt"
	"math/rand"
	"slices"
	"strconv"
	"strings"
	"testing"

	"espalier/api"
	"espalier/node"
	"espalier/xml"
)

// grower makes trees, and texts of which they are the trees.
type grower struct {
	*rand.Rand
	out strings.Builder
}

func (g *grower) pick(words ...string) string { return words[g.Intn(len(words))] }

// value is characters of which each may have to be written in its own way.
func (g *grower) value(most int) string {
	s := ""
	for range g.Intn(most + 1) {
		s += g.pick("a", "b", "1", " ", " ", "\t", "\n", "\n", "\r", "<", ">", "&", "'", "\"", "]", "]]", "-", ";", "#", "é", "\u0085", "\U0001F600", "]]>", "&lt;", "<b/>")
	}
	return s
}

// tree is an Elem.
func (g *grower) tree(depth int) api.Tree {
	t := elem(g.pick("a", "b", "ab", "é-1.·", "_"))
	for _, name := range []string{"x", "y", "xx", "_1.-"} {
		if g.Intn(4) == 0 {
			t.Attrs = append(t.Attrs, api.Pair{Name: name, Value: g.value(6)})
		}
	}
	g.Shuffle(len(t.Attrs), func(i, j int) { t.Attrs[i], t.Attrs[j] = t.Attrs[j], t.Attrs[i] })
	if depth == 0 {
		return t
	}
	for range g.Intn(5) {
		kid := g.tree(depth - 1)
		switch g.Intn(4) {
		case 0:
			kid = g.comment()
		case 1, 2:
			kid = text(g.value(8))
		}
		last := len(t.Kids) > 0 && t.Kids[len(t.Kids)-1].Kind == api.Text
		if kid.Kind != api.Text || kid.Value != "" && !last {
			t.Kids = append(t.Kids, kid)
		}
	}
	return t
}

func (g *grower) comment() api.Tree {
	v := strings.ReplaceAll(g.value(6), "\r", "")
	for strings.Contains(v, "--") {
		v = strings.ReplaceAll(v, "--", "-")
	}
	return comment(strings.TrimSuffix(v, "-"))
}

// put writes a text, and nothing else if that would make a line end of two.
func (g *grower) put(s string) {
	if strings.HasSuffix(g.out.String(), "\r") && strings.HasPrefix(s, "\n") {
		s = "\r" + s[1:]
	}
	g.out.WriteString(s)
}

// gap writes so many spaces at least.
func (g *grower) gap(least int) {
	for range least + g.Intn(5)/2 {
		g.put(g.pick(" ", " ", "\t", "\n", "\r", "\r\n"))
	}
}

// raw writes characters as they stand, their line ends in any way.
func (g *grower) raw(s string) {
	for _, c := range s {
		if c == '\n' {
			g.put(g.pick("\n", "\r", "\r\n"))
		} else {
			g.put(string(c))
		}
	}
}

// reference writes a character by a reference.
func (g *grower) reference(c rune) {
	names := map[rune]string{'<': "lt", '>': "gt", '&': "amp", '"': "quot", '\'': "apos"}
	noughts := strings.Repeat("0", g.Intn(3)*g.Intn(10))
	hex := strconv.FormatInt(int64(c), 16)
	switch name := names[c]; {
	case name != "" && g.Intn(2) == 0:
		g.put("&" + name + ";")
	case g.Intn(2) == 0:
		g.put("&#" + noughts + strconv.Itoa(int(c)) + ";")
	default:
		g.put("&#x" + noughts + g.pick(hex, strings.ToUpper(hex)) + ";")
	}
}

// text writes a Text's characters, CDATA among them.
func (g *grower) text(s string) {
	for i, c := range s {
		if g.Intn(20) == 0 {
			g.put("<![CDATA[]]>")
		}
		closes := c == '>' && strings.HasSuffix(g.out.String(), "]]")
		switch n := g.Intn(10); {
		case n == 0 && c != '\r':
			g.put("<![CDATA[")
			g.raw(string(c))
			g.put("]]>")
		case n < 3 || c == '<' || c == '&' || c == '\r' || closes:
			g.reference(c)
		default:
			g.raw(s[i : i+len(string(c))])
		}
	}
}

// attr writes an attribute.
func (g *grower) attr(a api.Pair) {
	g.gap(1)
	g.put(a.Name)
	g.gap(0)
	g.put("=")
	g.gap(0)
	quote := g.pick("'", "\"")
	g.put(quote)
	for _, c := range a.Value {
		switch {
		case c == ' ':
			g.put(g.pick(" ", " ", "\t", "\n", "\r", "\r\n"))
		case strings.ContainsRune("\t\n\r<&"+quote, c) || g.Intn(4) == 0:
			g.reference(c)
		default:
			g.put(string(c))
		}
	}
	g.put(quote)
}

// write writes a tree.
func (g *grower) write(t api.Tree) {
	switch t.Kind {
	case api.Text:
		g.text(t.Value)
	case api.Comment:
		g.put("<!--")
		g.raw(t.Value)
		g.put("-->")
	case api.Elem:
		g.put("<" + t.Name)
		for _, a := range t.Attrs {
			g.attr(a)
		}
		g.gap(0)
		if len(t.Kids) == 0 && g.Intn(2) == 0 {
			g.put("/>")
			return
		}
		g.put(">")
		for _, k := range t.Kids {
			g.write(k)
		}
		g.put("</" + t.Name)
		g.gap(0)
		g.put(">")
	}
}

// document is a text, and the tree that it has.
func (g *grower) document() (string, api.Tree) {
	g.out.Reset()
	t := doc(g.tree(4))
	for range g.Intn(3) {
		t.Kids = slices.Insert(t.Kids, g.Intn(2)*len(t.Kids), g.comment())
	}
	for _, k := range t.Kids {
		g.gap(0)
		g.write(k)
	}
	g.gap(0)
	return g.out.String(), t
}

// built tells whether a store takes the tree and answers it again.
func built(t api.Tree) bool {
	s, _ := node.New(api.MaxNodes)
	n, e := s.Build(t)
	return e == api.OK && equal(s.Tree(n), t)
}

func TestP81GrownDocuments(t *testing.T) {
	g := grower{Rand: rand.New(rand.NewSource(81))}
	for range 3000 {
		s, want := g.document()
		hold(t, s, want)
		if got, e := judge(s); e != api.OK || !equal(got, want) {
			t.Fatalf("%q: the judge says %v, %+v; not %+v", s, e, got, want)
		}
	}
}

// A document whose end is cut away, or in which a piece is, is what the judge says.
func TestP81GrownAndCut(t *testing.T) {
	g := grower{Rand: rand.New(rand.NewSource(82))}
	c := counts{}
	for range 300 {
		s, _ := g.document()
		for range 20 {
			from := g.Intn(len(s) + 1)
			to := from + g.Intn(min(6, len(s)+1-from))
			c.judged(t, s[:from])
			c.judged(t, s[:from]+s[to:])
			c.judged(t, s[:to]+s[from:])
		}
	}
	c.both(t, 1000, 1000)
}

func TestP82Right(t *testing.T) {
	g := grower{Rand: rand.New(rand.NewSource(83))}
	texts := []string{
		"<a/>", "<a></a>", "<!----><a/><!---->", "<a><![CDATA[]]></a>", "<a>t<![CDATA[]]>u&lt;<![CDATA[v]]>w</a>", "<a><!--c--><![CDATA[]]><!--d-->t</a>", "<a x='' y='&#13;'>&#13;</a>",
		in(63, ""), in(63, "t"), in(63, "<!--c-->t&lt;<![CDATA[u]]>"), in(62, "<b x='1'/>t<b>u</b>"), "<a>" + strings.Repeat("&lt;", 100000) + "</a>", "<a>" + strings.Repeat("t<b/>", 100000) + "</a>",
	}
	for range 1000 {
		s, _ := g.document()
		texts = append(texts, s)
	}
	for _, s := range texts {
		got, e := xml.Parse(s)
		if e != api.OK || !node.Right(got) || got.Kind != api.Doc || !built(got) {
			t.Errorf("P8.2: %s; built %v", told(s), built(got))
		}
	}
}

// stamp makes each thing of the lists of a tree another one, counted from n on; read tells whether they still are so.
func stamp(t *api.Tree, n *int, read bool) bool {
	ok := true
	mark := func(s *string) {
		*n++
		if !read {
			*s = strconv.Itoa(*n)
		}
		ok = ok && *s == strconv.Itoa(*n)
	}
	for i := range t.Attrs[:cap(t.Attrs)] {
		mark(&t.Attrs[:cap(t.Attrs)][i].Name)
	}
	for i := range t.Kids[:cap(t.Kids)] {
		mark(&t.Kids[:cap(t.Kids)][i].Value)
	}
	for i := range t.Kids {
		ok = stamp(&t.Kids[i], n, read) && ok
	}
	return ok
}

// No two lists of an answer share memory, their spare room included, nor do two answers; nothing is kept from call to call.
func TestP81NewMemory(t *testing.T) {
	g := grower{Rand: rand.New(rand.NewSource(84))}
	for range 300 {
		s, want := g.document()
		first, _ := xml.Parse(s)
		second, _ := xml.Parse(s)
		n := 0
		stamp(&first, &n, false)
		if n = 0; !stamp(&first, &n, true) {
			t.Fatalf("%q: two lists of the answer share memory", s)
		}
		if !equal(second, want) {
			t.Fatalf("%q: two answers share memory: %s", s, fmt.Sprintf("%+v", second))
		}
		refuse(t, api.ErrXML, s+"x", "<a>"+s)
		hold(t, s, want)
	}
}
