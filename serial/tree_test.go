package serial_test

import (
	"math/rand"
	"reflect"
	"strings"
	"testing"

	"espalier/api"
	"espalier/serial"
)

func TestP91Examples(t *testing.T) {
	hold(t, `<a x="&lt;">1&gt;0</a>`, with(elem("a", text("1>0")), "x", "<"))
	refuse(t, attr("x", "1"))
	refuse(t, attr("", ""))
}

func TestP91NoTree(t *testing.T) {
	hold(t, "")
	hold(t, "", []api.Tree{}...)
}

func TestP91EachKind(t *testing.T) {
	hold(t, "", doc())
	hold(t, "", api.Tree{Kind: api.Doc, Kids: []api.Tree{}})
	hold(t, "<a/>", elem("a"))
	hold(t, "<a/>", api.Tree{Kind: api.Elem, Name: "a", Kids: []api.Tree{}, Attrs: []api.Pair{}})
	hold(t, "t", text("t"))
	hold(t, "", text(""))
	hold(t, "<!--c-->", comment("c"))
	hold(t, "<!---->", comment(""))
}

// Two trees side by side are nothing but one behind the other, by themselves and as kids.
func TestP91OneBehindTheOther(t *testing.T) {
	parts := []struct {
		tree api.Tree
		form string
	}{
		{doc(), ""},
		{doc(text("d")), "d"},
		{doc(comment("e"), elem("f"), comment("g")), "<!--e--><f/><!--g-->"},
		{elem("a"), "<a/>"},
		{elem("a", text("")), "<a></a>"},
		{with(elem("a", elem("b"), text("t")), "x", "1", "y", ""), `<a x="1" y=""><b/>t</a>`},
		{text(""), ""},
		{text("t"), "t"},
		{text(" "), " "},
		{text("-"), "-"},
		{comment(""), "<!---->"},
		{comment("c"), "<!--c-->"},
	}
	for _, p := range parts {
		hold(t, p.form, p.tree)
		hold(t, p.form, doc(p.tree))
		hold(t, "<o>"+p.form+"</o>", elem("o", p.tree))
		hold(t, `<o x="1">`+p.form+"</o>", with(elem("o", p.tree), "x", "1"))
		for _, q := range parts {
			hold(t, p.form+q.form, p.tree, q.tree)
			hold(t, p.form+q.form, doc(p.tree, q.tree))
			hold(t, p.form+"<o>"+q.form+"</o>", p.tree, elem("o", q.tree))
			hold(t, "<o>"+p.form+q.form+"</o>", elem("o", p.tree, q.tree))
			hold(t, "<o>"+p.form+"<i>"+q.form+"</i>"+p.form+"</o>"+q.form, elem("o", p.tree, elem("i", q.tree), p.tree), q.tree)
			for _, r := range parts {
				hold(t, p.form+q.form+r.form, p.tree, q.tree, r.tree)
			}
		}
	}
}

// What counts is whether there are Kids, not whether they have characters.
func TestP91ElementsWhoseKidsAreEmpty(t *testing.T) {
	hold(t, "<a></a>", elem("a", text("")))
	hold(t, "<a></a>", elem("a", text(""), text("")))
	hold(t, "<a></a>", elem("a", doc()))
	hold(t, "<a></a>", elem("a", doc(doc(), text(""))))
	hold(t, `<a x=""></a>`, with(elem("a", text("")), "x", ""))
	hold(t, "<a><b/></a>", elem("a", elem("b")))
	hold(t, "<a><b></b></a>", elem("a", elem("b", text(""))))
	hold(t, "<a><!----></a>", elem("a", comment("")))
}

func TestP91Attributes(t *testing.T) {
	hold(t, `<a x=""/>`, with(elem("a"), "x", ""))
	hold(t, `<a x="1"/>`, with(elem("a"), "x", "1"))
	hold(t, `<a y="2" x="1"/>`, with(elem("a"), "y", "2", "x", "1"))
	hold(t, `<a z="" y=" " x="'"><b x="1"/>t</a>`, with(elem("a", with(elem("b"), "x", "1"), text("t")), "z", "", "y", " ", "x", "'"))
	hold(t, `<a><b y="&amp;"></b></a>`, elem("a", with(elem("b", text("")), "y", "&")))
}

// marks are the bytes that have references, in texts and in values; the bytes that aren't here have none in either.
var marks = map[byte]struct{ text, value string }{
	'&':  {"&amp;", "&amp;"},
	'<':  {"&lt;", "&lt;"},
	'>':  {"&gt;", ">"},
	'"':  {`"`, "&quot;"},
	'\t': {"\t", "&#9;"},
	'\n': {"\n", "&#10;"},
	'\r': {"&#13;", "&#13;"},
}

// spelt holds a text, as a Text, as a value, in a comment and by Escape, against these forms.
func spelt(t *testing.T, s, inText, inValue string) {
	t.Helper()
	hold(t, inText, text(s))
	hold(t, "<a>"+inText+"</a>", elem("a", text(s)))
	hold(t, `<a x="`+inValue+`"/>`, with(elem("a"), "x", s))
	hold(t, `<a y="`+inValue+`" x="`+inValue+`">`+inText+"<b/>"+inText+"</a>", with(elem("a", text(s), elem("b"), text(s)), "y", s, "x", s))
	if got := serial.Escape(s); got != inText {
		t.Errorf("Escape of %q: %q, not %q", short(s), short(got), short(inText))
	}
}

func TestP91EveryByte(t *testing.T) {
	for i := range 256 {
		c := string([]byte{byte(i)})
		m, ok := marks[byte(i)]
		if !ok {
			m.text, m.value = c, c
		}
		spelt(t, c, m.text, m.value)
		spelt(t, "a"+c+"b", "a"+m.text+"b", "a"+m.value+"b")
		spelt(t, c+c+"é"+c, m.text+m.text+"é"+m.text, m.value+m.value+"é"+m.value)
		hold(t, "<!--"+c+"c-->", comment(c+"c"))
	}
}

func TestP91EveryTwoBytes(t *testing.T) {
	for i := range 256 {
		for j := range 256 {
			s, inText, inValue := string([]byte{byte(i), byte(j)}), "", ""
			for _, c := range []byte(s) {
				m, ok := marks[c]
				if !ok {
					m.text, m.value = string([]byte{c}), string([]byte{c})
				}
				inText, inValue = inText+m.text, inValue+m.value
			}
			spelt(t, s, inText, inValue)
		}
	}
}

// Every code point, those that are none of XML's too, stands as it is, but those of the marks.
func TestP91EveryCodePoint(t *testing.T) {
	var all strings.Builder
	for c := range rune(0x110000) {
		all.WriteRune(c)
	}
	s := all.String()
	spelt(t, s, spelling().Replace(s), quoting().Replace(s))
}

// What looks like a reference or like markup is characters as all others.
func TestP91MarkupInTexts(t *testing.T) {
	spelt(t, "&lt;", "&amp;lt;", "&amp;lt;")
	spelt(t, "&#13;", "&amp;#13;", "&amp;#13;")
	spelt(t, "&amp;amp;", "&amp;amp;amp;", "&amp;amp;amp;")
	spelt(t, "]]>", "]]&gt;", "]]>")
	spelt(t, "<![CDATA[<]]>", "&lt;![CDATA[&lt;]]&gt;", "&lt;![CDATA[&lt;]]>")
	spelt(t, "<!--c-->", "&lt;!--c--&gt;", "&lt;!--c-->")
	spelt(t, "\r\n", "&#13;\n", "&#13;&#10;")
	spelt(t, "\n\r\t ", "\n&#13;\t ", "&#10;&#13;&#9; ")
	spelt(t, "\u0085\u2028\u00a0'", "\u0085\u2028\u00a0'", "\u0085\u2028\u00a0'")
	spelt(t, "", "", "")
	spelt(t, " ", " ", " ")
	long := strings.Repeat("<a&", 100000)
	spelt(t, long, strings.Repeat("&lt;a&amp;", 100000), strings.Repeat("&lt;a&amp;", 100000))
}

func TestP91Comments(t *testing.T) {
	for _, v := range []string{"", " ", "c", "-c", "-c-d", "a-b-c", "-\n-", " - ", ">", "->", "-é", "&<>\"'\t\n\r", "&amp;", "<!", "]]>", "\xff", "-\x00", "\u2013", "\u2010\u2010", "- -"} {
		v = strings.TrimSuffix(v, "-")
		hold(t, "<!--"+v+"-->", comment(v))
		hold(t, "<a><!--"+v+"--></a>", elem("a", comment(v)))
		refuse(t, comment(v+"-"))
		refuse(t, comment(v+"--"))
		refuse(t, comment("--"+v))
		refuse(t, comment(v+"--"+v))
		refuse(t, elem("a", comment(v+"-")))
	}
	for _, v := range []string{"-", "--", "---", "a--", "--a", "a--b", "a-", "-a-", "a---b", "--\n", "a -", "é-", "\xff-", "-->", "<!--"} {
		refuse(t, comment(v))
		refuse(t, elem("a", text("t"), comment(v)))
	}
}

// Every short row of the words that might count.
func TestP91RowsInComments(t *testing.T) {
	formed, formless := 0, 0
	var rows func(v string, most int)
	rows = func(v string, most int) {
		if judged(t, comment(v)) && judged(t, text(v), elem("b", comment(v))) {
			formed++
		} else {
			formless++
		}
		if most > 0 {
			for _, w := range []string{"-", "a", ">", "<", "&", "\r", " "} {
				rows(v+w, most-1)
			}
		}
	}
	rows("", 5)
	if formed < 1000 || formless < 1000 {
		t.Errorf("%d with a form, %d without one", formed, formless)
	}
}

// none are trees without a form.
func none() []api.Tree {
	full := with(elem("a", text("t"), elem("b")), "x", "1")
	ts := []api.Tree{attr("x", "1"), attr("", ""), comment("-"), comment("a--b"), comment("--"), comment("c-"), {}}
	for _, kind := range []api.NodeKind{-1 << 63, -5, -4, -3, -2, -1, 0, api.Attr, api.Nodes, 7, 8, 1<<32 + 2, 1<<63 - 1} {
		x := full
		x.Kind = kind
		ts = append(ts, api.Tree{Kind: kind}, x, api.Tree{Kind: kind, Value: "v"}, api.Tree{Kind: kind, Name: "a"}, api.Tree{Kind: kind, Kids: []api.Tree{text("t")}})
	}
	return ts
}

func TestP91NoForm(t *testing.T) {
	long := elem("l", text(strings.Repeat("t<", 5000)))
	for _, x := range none() {
		for _, y := range []api.Tree{x, doc(x), elem("a", x), with(elem("a", x), "x", "1"), doc(comment("c"), elem("a", text("t"), elem("b", text("t"), x, text("u")))), doc(elem("a"), x), in(60, x), elem("a", doc(x))} {
			refuse(t, y)
			refuse(t, y, elem("a"))
			refuse(t, elem("a"), y)
			refuse(t, text("t"), y, text("t"))
			refuse(t, long, doc(), y)
			refuse(t, elem("a", y, long))
			refuse(t, elem("a", long, y))
			refuse(t, y, y)
			refuse(t, elem("a", elem("b"), elem("c", elem("d"), y), elem("e")))
		}
	}
}

// The Kids of a Text and of a Comment are ignored, whatever they are, and so are all fields that are in no form.
func TestP91Ignored(t *testing.T) {
	full := func(kind api.NodeKind, name, value string, kids ...api.Tree) api.Tree {
		return api.Tree{Kind: kind, Name: name, Value: value, Attrs: []api.Pair{{Name: "x", Value: "<"}, {}}, Kids: kids}
	}
	for _, kids := range [][]api.Tree{nil, {text("k")}, {elem("k", comment("k"))}, none(), {doc(none()...), elem("a", attr("x", "1"))}, {comment("--")}} {
		hold(t, "t&lt;", full(api.Text, "n", "t<", kids...))
		hold(t, "", full(api.Text, "n", "", kids...))
		hold(t, "<!--c<-->", full(api.Comment, "n", "c<", kids...))
		hold(t, "<!---->", full(api.Comment, "n", "", kids...))
		hold(t, "<a>t<!--c-->u</a>v", elem("a", full(api.Text, "", "t", kids...), full(api.Comment, "-", "c", kids...), full(api.Text, "\xff", "u", kids...)), full(api.Text, "--", "v", kids...))
		refuse(t, full(api.Comment, "n", "c-", kids...))
		refuse(t, full(api.Attr, "n", "v", kids...))
	}
	hold(t, "", full(api.Doc, "n", "v"))
	hold(t, "t", full(api.Doc, "n", "--", text("t")))
	hold(t, `<n x="&lt;" =""/>`, full(api.Elem, "n", "v<"))
	hold(t, `<n x="&lt;" ="">t</n>`, full(api.Elem, "n", "--", text("t")))
}

// Trees that aren't right are written as they are.
func TestP91NotRight(t *testing.T) {
	hold(t, "</>", elem(""))
	hold(t, "<>t</>", elem("", text("t")))
	hold(t, `< =""/>`, with(elem(""), "", ""))
	hold(t, `<a ="&quot;"></a>`, with(elem("a", text("")), "", `"`))
	hold(t, `<a x="1" x="1" x="2"/>`, with(elem("a"), "x", "1", "x", "1", "x", "2"))
	hold(t, `<<&> >"="&quot;"><b"/><--></--></<&>>`, with(elem("<&>", elem(`b"`), elem("--", text(""))), `>"`, `"`))
	hold(t, "<1\r\t\n/>", elem("1\r\t\n"))
	hold(t, "<\xff \xc3=\"\xe2\x82&amp;\x00\">\x80&lt;\xfe\x01<!--\xed\xa0\x80--></\xff>", with(elem("\xff", text("\x80<\xfe\x01"), comment("\xed\xa0\x80")), "\xc3", "\xe2\x82&\x00"))
	hold(t, "tu", text("t"), text("u"))
	hold(t, "<a>tu</a>", elem("a", text("t"), text(""), text("u")))
	hold(t, "<a>t<b/><c/>u</a>", elem("a", doc(text("t"), doc(elem("b"))), doc(elem("c"), text("u"))))
	hold(t, "tu<a/><b/>", doc(text("t"), text("u"), elem("a"), doc(elem("b"))))
	hold(t, "<!--\r-->", comment("\r"))
}

// There is no bound of nesting, and none of length.
func TestP91DeepAndLong(t *testing.T) {
	const count = 1 << 16
	open, closed := strings.Repeat("<a>", count), strings.Repeat("</a>", count)
	hold(t, open+"t"+closed, in(count, text("t")))
	hold(t, open+"<b/>"+closed+"<b/>", in(count, elem("b")), elem("b"))
	refuse(t, in(count, attr("x", "1")))
	docs := text("t")
	for range count {
		docs = doc(docs)
	}
	hold(t, "t", docs)

	kids := make([]api.Tree, 300000)
	for i := range kids {
		kids[i] = elem("b", text("<"))
	}
	hold(t, "<a>"+strings.Repeat("<b>&lt;</b>", len(kids))+"</a>", elem("a", kids...))
	hold(t, strings.Repeat("<b>&lt;</b>", len(kids)), kids...)
	refuse(t, append(kids, comment("-"))...)
	var pairs []string
	for range 100000 {
		pairs = append(pairs, "x", "<")
	}
	hold(t, "<a"+strings.Repeat(` x="&lt;"`, 100000)+"/>", with(elem("a"), pairs...))
}

func TestP91GrownTrees(t *testing.T) {
	for _, g := range []grower{{rand.New(rand.NewSource(91)), 0, 0}, {rand.New(rand.NewSource(92)), 0, 15}, {rand.New(rand.NewSource(93)), 2, 10}} {
		formed, formless := 0, 0
		for range 3000 {
			ts := []api.Tree{g.document(4), g.kid(3), g.kid(3)}[g.Intn(3):]
			if judged(t, ts...) {
				formed++
			} else {
				formless++
			}
		}
		if formed < 1000 || g.formless > 0 != (formless > 300) {
			t.Errorf("%d with a form, %d without one", formed, formless)
		}
	}
}

// plain is the tree in new memory, with nil for lists that are empty.
func plain(t api.Tree) api.Tree {
	t.Attrs = append([]api.Pair(nil), t.Attrs...)
	kids := t.Kids
	t.Kids = nil
	for _, k := range kids {
		t.Kids = append(t.Kids, plain(k))
	}
	return t
}

// What is handed in stays as it is, its spare room too, and nothing is kept from call to call.
func TestP91WhatIsHandedIn(t *testing.T) {
	g := grower{rand.New(rand.NewSource(94)), 5, 10}
	spare := attr("spare", "spare")
	for range 500 {
		ts := make([]api.Tree, 0, 8)
		for range 3 {
			ts = append(ts, g.kid(3))
		}
		ts[:8][7] = spare
		x := api.Tree{Kind: api.Elem, Name: "a", Kids: append(make([]api.Tree, 0, 8), ts...), Attrs: append(make([]api.Pair, 0, 4), g.pairs()...)}
		x.Kids[:8][7] = spare
		before := plain(doc(append(ts[:3:3], x)...))
		whole := []api.Tree{ts[0], ts[1], ts[2], x}
		one, e := serial.Tree(whole...)
		serial.Tree(comment("-"))
		serial.Tree(ts...)
		if two, f := serial.Tree(whole...); one != two || e != f {
			t.Fatalf("one call answers %q, %v, the next %q, %v", short(one), e, short(two), f)
		}
		if !reflect.DeepEqual(plain(doc(whole...)), before) || !reflect.DeepEqual(ts[:8][7], spare) || !reflect.DeepEqual(x.Kids[:8][7], spare) {
			t.Fatal("what was handed in has changed")
		}
	}
}

// One part in several places is written in each.
func TestP91SharedParts(t *testing.T) {
	part := with(elem("p", text("t")), "x", "1")
	const form = `<p x="1">t</p>`
	hold(t, form+"<a>"+form+form+"<b>"+form+"</b></a>"+form, part, elem("a", part, part, elem("b", part)), part)
}
