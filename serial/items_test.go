package serial_test

import (
	"fmt"
	"math/rand"
	"slices"
	"strings"
	"testing"

	"espalier/api"
	"espalier/atom"
	"espalier/dec"
	"espalier/node"
	"espalier/serial"
)

// sample is a store with a node of each kind. Its nodes: 1 Doc, 2 Comment c, 3 Elem b, 4 x, 5 Text <, 6 Comment without a form, 7 Doc without Kids, 8 Elem e, 9 Text t, 10 Text u, 11 Attr by itself, 12 a Doc, 13 a Comment without a form, 14 Elem f, 15 Elem g, 16 Elem h, 17 a Comment without a form.
func sample(t *testing.T) *node.Store {
	t.Helper()
	return store(t,
		doc(comment("c"), with(elem("b", text("<")), "x", "\"<")),
		comment("a--b"), doc(), elem("e"), text("t"), text("u"), attr("y", "v"),
		doc(comment("-"), elem("f")),
		elem("g", elem("h", comment("h-"))))
}

// sampleForms are the forms of the nodes of sample, by their numbers; those that aren't here have none.
var sampleForms = map[int]string{
	1: `<!--c--><b x="&quot;&lt;">&lt;</b>`, 2: "<!--c-->", 3: `<b x="&quot;&lt;">&lt;</b>`, 5: "&lt;",
	7: "", 8: "<e/>", 9: "t", 10: "u", 14: "<f/>",
}

func TestP92Examples(t *testing.T) {
	s := store(t, elem("b"))
	holdItems(t, s, "1 true<b/>2", row(atoms(atom.Of(1), atom.Truth(true)), nodes(1), atoms(atom.Of(2)))...)
}

func TestP92NoItem(t *testing.T) {
	holdItems(t, store(t), "")
	holdItems(t, sample(t), "", []api.Item{}...)
}

func TestP92EachAtomicValue(t *testing.T) {
	for _, x := range []struct {
		a    api.Atom
		want string
	}{
		{atom.Of(0), "0"},
		{atom.Of(-7), "-7"},
		{atom.Of(1e18 - 1), "999999999999999999"},
		{atom.Number(dec.Num{N: -25, Scale: 1}), "-2.5"},
		{atom.Number(dec.Num{N: 3}), "3"},
		{atom.Number(dec.Num{N: 1, Scale: 9}), "0.000000001"},
		{atom.Truth(true), "true"},
		{atom.Truth(false), "false"},
		{atom.Text(""), ""},
		{atom.Text(" a  b "), " a  b "},
		{atom.Text("<b x=\"1\">&amp;\t\n\r'</b>"), "&lt;b x=\"1\"&gt;&amp;amp;\t\n&#13;'&lt;/b&gt;"},
		{atom.Raw(""), ""},
		{atom.Raw("]]>"), "]]&gt;"},
		{atom.Raw("--"), "--"},
		{atom.Text("\xff<\x00"), "\xff&lt;\x00"},
		{api.Atom{}, ""},
		{api.Atom{Kind: -1, S: "s", N: 1, B: true}, ""},
		{api.Atom{Kind: api.Atoms, S: "s"}, ""},
		{api.Atom{Kind: api.Int, N: 4, S: "<"}, "4"},
		{api.Atom{Kind: api.Untyped, N: 4, S: "<"}, "&lt;"},
		{api.Atom{Kind: api.Bool, N: 4, S: "<"}, "false"},
	} {
		for _, s := range []*node.Store{store(t), sample(t)} {
			holdItems(t, s, x.want, atoms(x.a)...)
			holdItems(t, s, x.want+" "+x.want, atoms(x.a, x.a)...)
			holdItems(t, s, "1 "+x.want+" 2", atoms(atom.Of(1), x.a, atom.Of(2))...)
		}
		holdItems(t, sample(t), "<e/>"+x.want+"<e/>", row(nodes(8), atoms(x.a), nodes(8))...)
	}
}

func TestP92EveryByteOfValues(t *testing.T) {
	s := store(t)
	for i := range 256 {
		c := string([]byte{'a', byte(i)})
		want := spelling().Replace(c)
		holdItems(t, s, want+" "+want, atoms(atom.Text(c), atom.Raw(c))...)
	}
}

func TestP92Blanks(t *testing.T) {
	s := sample(t)
	one, two, three, nought := atoms(atom.Of(1)), atoms(atom.Of(2)), atoms(atom.Of(3)), texts("")
	e, text, empty := nodes(8), nodes(9), nodes(7)
	for _, x := range []struct {
		want  string
		items []api.Item
	}{
		{"1 2", row(one, two)},
		{"1 2 3", row(one, two, three)},
		{"1 2<e/>3", row(one, two, e, three)},
		{"1<e/>2 3", row(one, e, two, three)},
		{"1<e/>2<e/>3", row(one, e, two, e, three)},
		{"<e/>1 2<e/>", row(e, one, two, e)},
		{"<e/><e/>1", row(e, e, one)},
		{"1<e/><e/>2", row(one, e, e, two)},
		{"1t2", row(one, text, two)},
		{"tt", row(text, text)},
		{"tt1 2tt", row(text, text, one, two, text, text)},
		// A node parts two values, even if it has no characters.
		{"12", row(one, empty, two)},
		{"1", row(empty, one, empty)},
		{"", row(empty, empty)},
		// A value has its blanks, even if it has no characters.
		{"", nought},
		{" ", row(nought, nought)},
		{"  ", row(nought, nought, nought)},
		{"1 ", row(one, nought)},
		{" 1", row(nought, one)},
		{"1  2", row(one, nought, two)},
		{" 1 ", row(nought, one, nought)},
		{"<e/>", row(nought, e, nought)},
		{" <e/> ", row(nought, nought, e, nought, nought)},
		{"   ", row(texts(" ", " "))},
		{"&lt; &amp; &gt; \"", texts("<", "&", ">", "\"")},
	} {
		holdItems(t, s, x.want, x.items...)
	}
}

func TestP92EachNode(t *testing.T) {
	s := sample(t)
	if s.Len() != 17 {
		t.Fatalf("%d nodes", s.Len())
	}
	for n := 1; n < 20; n++ {
		if want, ok := sampleForms[n]; ok {
			holdItems(t, s, want, nodes(n)...)
			holdItems(t, s, want+want, nodes(n, n)...)
			holdItems(t, s, "1"+want+"2", row(atoms(atom.Of(1)), nodes(n), atoms(atom.Of(2)))...)
			holdItems(t, s, "<e/>"+want+"t", nodes(8, n, 9)...)
			continue
		}
		for _, rest := range [][]api.Item{nil, nodes(8), nodes(1, 3, 9), texts(""), texts("a", "b"), row(nodes(8), texts("<"))} {
			refuseItems(t, s, row(nodes(n), rest)...)
			refuseItems(t, s, row(rest, nodes(n))...)
			refuseItems(t, s, row(rest, nodes(n), rest)...)
		}
	}
}

// Numbers that are none of the store's: those above its last, in an empty one each.
func TestP92NoNodes(t *testing.T) {
	long := texts(strings.Repeat("<", 10000))
	for _, s := range []*node.Store{store(t), store(t, elem("a")), store(t, elem("a"), text("t"))} {
		for _, n := range []int{s.Len() + 1, s.Len() + 2, api.MaxNodes, api.MaxNodes + 1, 1 << 40, 1<<63 - 1} {
			refuseItems(t, s, nodes(n)...)
			refuseItems(t, s, row(long, nodes(n))...)
			refuseItems(t, s, row(nodes(n), long)...)
			refuseItems(t, s, api.Item{Node: n, Atom: atom.Of(1)})
			if s.Len() > 0 {
				refuseItems(t, s, nodes(1, n)...)
				refuseItems(t, s, nodes(n, 1)...)
			}
		}
	}
}

// What is one of the store's nodes is asked anew by each call.
func TestP92StoreThatGrows(t *testing.T) {
	s := store(t, elem("a"))
	refuseItems(t, s, nodes(1, 2)...)
	s.Build(elem("b", text("t")))
	holdItems(t, s, "<a/><b>t</b>", nodes(1, 2)...)
	refuseItems(t, s, nodes(1, 2, 4)...)
	s.Build(comment("-"))
	refuseItems(t, s, nodes(1, 2, 4)...)
	holdItems(t, s, "t<b>t</b><a/>", nodes(3, 2, 1)...)
}

// An item with a node is that node, whatever else it has.
func TestP92NodesWithValues(t *testing.T) {
	s := sample(t)
	holdItems(t, s, "<e/>", api.Item{Node: 8, Atom: atom.Of(7)})
	holdItems(t, s, "1<e/>2", api.Item{Atom: atom.Of(1)}, api.Item{Node: 8, Atom: atom.Of(7)}, api.Item{Atom: atom.Of(2)})
	holdItems(t, s, "<e/><e/>", api.Item{Node: 8, Atom: atom.Of(7)}, api.Item{Node: 8, Atom: atom.Text("<")})
	refuseItems(t, s, api.Item{Node: 11, Atom: atom.Of(7)})
}

// A node has a number above 0: what has one below that is atomic.
func TestP92NumbersBelowOne(t *testing.T) {
	s := sample(t)
	for _, n := range []int{-1, -8, -1 << 63} {
		holdItems(t, s, "&lt;", api.Item{Node: n, Atom: atom.Text("<")})
		holdItems(t, s, "1 2<e/>", api.Item{Node: n, Atom: atom.Of(1)}, api.Item{Atom: atom.Of(2)}, api.Item{Node: 8})
	}
}

// A part is an item and its form, if it has one.
type part struct {
	item   api.Item
	form   string
	formed bool
}

// parts are items of each sort.
func parts() []part {
	ps := []part{
		{api.Item{Atom: atom.Of(1)}, "1", true},
		{api.Item{Atom: atom.Text("")}, "", true},
		{api.Item{Atom: atom.Raw("<")}, "&lt;", true},
	}
	for n := range 19 {
		if form, ok := sampleForms[n]; n > 0 && (ok || n == 4 || n == 6 || n == 12 || n == 18) {
			ps = append(ps, part{api.Item{Node: n}, form, ok})
		}
	}
	return ps
}

// together is what the chapter says of a row: the values that stand side by side brought together by blanks.
func together(row []part) (string, bool) {
	whole, formed := "", true
	for len(row) > 0 {
		count := max(1, slices.IndexFunc(append(row[:len(row):len(row)], part{item: api.Item{Node: 1}}), func(p part) bool { return p.item.Node > 0 }))
		var forms []string
		for _, p := range row[:count] {
			forms, formed = append(forms, p.form), formed && p.formed
		}
		whole, row = whole+strings.Join(forms, " "), row[count:]
	}
	return whole, formed
}

func TestP92EveryShortRow(t *testing.T) {
	s := sample(t)
	all := parts()
	formed, formless := 0, 0
	var rows func(row []part, most int)
	rows = func(row []part, most int) {
		var items []api.Item
		for _, p := range row {
			items = append(items, p.item)
		}
		if want, ok := together(row); ok {
			formed++
			holdItems(t, s, want, items...)
		} else {
			formless++
			refuseItems(t, s, items...)
		}
		for _, p := range all {
			if most > 0 {
				rows(append(slices.Clone(row), p), most-1)
			}
		}
	}
	rows(nil, 4)
	if formed < 10000 || formless < 10000 {
		t.Errorf("%d with a form, %d without one", formed, formless)
	}
}

// Of grown stores each node's form is that of its tree.
func TestP92GrownStores(t *testing.T) {
	g := grower{rand.New(rand.NewSource(95)), 0, 0}
	formed, formless := 0, 0
	for range 300 {
		s := store(t, g.document(3), g.elem(3), comment(g.pick("-", "--", "c")), attr("x", "1"), g.document(2))
		whole, items := "", []api.Item(nil)
		for n := 1; n <= s.Len(); n++ {
			want, ok := form(s.Tree(n))
			if !ok {
				formless++
				refuseItems(t, s, nodes(n)...)
				continue
			}
			formed++
			both := row(nodes(n), atoms(atom.Of(1), atom.Of(2)))
			holdItems(t, s, want, nodes(n)...)
			holdItems(t, s, want+"1 2", both...)
			whole, items = whole+want+"1 2", append(items, both...)
		}
		holdItems(t, s, whole, items...)
	}
	if formed < 1000 || formless < 1000 {
		t.Errorf("%d with a form, %d without one", formed, formless)
	}
}

// There is no bound of items or of length.
func TestP92Long(t *testing.T) {
	s := sample(t)
	const count = 100000
	var values, mixed []api.Item
	for range count {
		values = append(values, texts("<")...)
		mixed = append(mixed, row(texts(">"), nodes(8))...)
	}
	holdItems(t, s, strings.Repeat(" &lt;", count)[1:], values...)
	holdItems(t, s, strings.Repeat("&gt;<e/>", count), mixed...)
	holdItems(t, s, strings.Repeat("&lt;", 1<<20), texts(strings.Repeat("<", 1<<20))...)
	refuseItems(t, s, row(mixed, nodes(4))...)
}

// The store and the items stay as they are, their spare room too, and nothing is kept from call to call.
func TestP92WhatIsHandedIn(t *testing.T) {
	s := sample(t)
	items := row(atoms(atom.Of(1), atom.Text("<")), nodes(3, 1), texts(""), nodes(11))
	items = append(items, nodes(9, 10)...)[:6]
	before := fmt.Sprint(items[:8])
	trees := func() string {
		var all []api.Tree
		for n := range s.Len() {
			all = append(all, s.Tree(n+1))
		}
		return fmt.Sprint(s.Len(), s.Room(), all)
	}
	stored := trees()
	for range 3 {
		refuseItems(t, s, items...)
		holdItems(t, s, "1 &lt;"+sampleForms[3]+sampleForms[1], items[:4]...)
		serial.Tree(comment("-"))
	}
	if fmt.Sprint(items[:8]) != before || trees() != stored {
		t.Error("what was handed in has changed")
	}
}
