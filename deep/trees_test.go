package deep

import (
	"math"
	"slices"
	"strconv"
	"strings"
	"testing"

	"espalier/api"
)

// noKinds are Kinds that are none.
var noKinds = []api.NodeKind{0, -1, api.Nodes, 77, math.MaxInt, math.MinInt}

func doc(kids ...api.Tree) api.Tree { return api.Tree{Kind: api.Doc, Kids: kids} }

func elem(name string, kids ...api.Tree) api.Tree {
	return api.Tree{Kind: api.Elem, Name: name, Kids: kids}
}

func attr(name, value string) api.Tree {
	return api.Tree{Kind: api.Attr, Name: name, Value: value}
}

func text(value string) api.Tree { return api.Tree{Kind: api.Text, Value: value} }

func comment(value string) api.Tree { return api.Tree{Kind: api.Comment, Value: value} }

// with is the tree with these names and values as its attributes.
func with(t api.Tree, words ...string) api.Tree {
	t.Attrs = nil
	for i := 0; i < len(words); i += 2 {
		t.Attrs = append(t.Attrs, api.Pair{Name: words[i], Value: words[i+1]})
	}
	return t
}

// written is a text that two trees have in common just if they are the same in depth.
func written(t api.Tree) string {
	switch t.Kind {
	case api.Doc:
		return "doc" + writtenKids(t.Kids)
	case api.Elem:
		var as []string
		for _, a := range t.Attrs {
			as = append(as, strconv.Quote(a.Name)+"="+strconv.Quote(a.Value))
		}
		slices.Sort(as)
		return "elem " + strconv.Quote(t.Name) + "[" + strings.Join(as, ",") + "]" + writtenKids(t.Kids)
	case api.Attr:
		return "attr " + strconv.Quote(t.Name) + "=" + strconv.Quote(t.Value)
	case api.Text:
		return "text " + strconv.Quote(t.Value)
	case api.Comment:
		return "comment " + strconv.Quote(t.Value)
	}
	return "kind " + strconv.Itoa(int(t.Kind))
}

func writtenKids(ts []api.Tree) string {
	var ws []string
	for _, t := range ts {
		if t.Kind != api.Comment {
			ws = append(ws, written(t))
		}
	}
	return "(" + strings.Join(ws, ",") + ")"
}

// holdTrees holds Trees both ways against what it should answer.
func holdTrees(t *testing.T, a, b api.Tree, want bool) {
	t.Helper()
	if Trees(a, b) != want || Trees(b, a) != want {
		t.Errorf("Trees of %+v and %+v: %v, and the other way %v, not %v", a, b, Trees(a, b), Trees(b, a), want)
	}
}

// shapes are trees of every Kind, and of some that are none, each field of them empty or full in several ways.
func shapes() []api.Tree {
	kids := [][]api.Tree{
		nil,
		{text("t")},
		{comment("c")},
		{comment("c"), text("t"), comment("")},
		{text("")},
		{text("t"), text("t")},
		{elem("b", text("u"), comment("c"))},
		{elem("b", text("u"))},
		{attr("x", "1"), doc(text("t"))},
		{{}, {Kind: api.Nodes, Value: "v"}},
	}
	attrs := [][]api.Pair{nil, {{Name: "x", Value: "1"}}, {{Name: "x"}, {Name: "y", Value: "1"}}, {{Name: "y", Value: "1"}, {Name: "x"}}}
	var ts []api.Tree
	for _, kind := range append([]api.NodeKind{api.Doc, api.Elem, api.Attr, api.Text, api.Comment}, noKinds[:3]...) {
		for _, ks := range kids {
			for _, as := range attrs {
				ts = append(ts, api.Tree{Kind: kind, Attrs: as, Kids: ks}, api.Tree{Kind: kind, Name: "a", Attrs: as, Kids: ks}, api.Tree{Kind: kind, Value: "a", Attrs: as, Kids: ks})
			}
		}
	}
	return ts
}

func TestP71Examples(t *testing.T) {
	a := with(elem("a"), "x", "1", "y", "2")
	holdTrees(t, a, with(elem("a"), "y", "2", "x", "1"), true)
	holdTrees(t, elem("a", comment("c")), elem("a"), true)
	holdTrees(t, elem("a"), elem("b"), false)
	holdTrees(t, a, a, true)
}

func TestP71SameByHand(t *testing.T) {
	for i, c := range []struct{ a, b api.Tree }{
		{elem("a"), elem("a")},
		{elem(""), elem("")},
		{doc(), doc()},
		{attr("x", "1"), attr("x", "1")},
		{attr("", ""), attr("", "")},
		{text("t"), text("t")},
		{text(""), text("")},
		{comment("c"), comment("c")},
		{comment(""), comment("")},
		{elem("a", text("t"), elem("b")), elem("a", text("t"), elem("b"))},
		{elem("a", text("t"), text("u")), elem("a", text("t"), comment("c"), text("u"))},
		{elem("a", comment("c"), text("t")), elem("a", text("t"), comment("d"), comment("c"))},
		{elem("a", comment("c")), elem("a", comment("d"))},
		{elem("a", comment("c"), comment("d")), elem("a")},
		{doc(comment("c"), elem("a")), doc(elem("a"), comment("d"))},
		{doc(comment("c")), doc()},
		{doc(elem("a", elem("b", comment("c")))), doc(elem("a", comment("d"), elem("b")))},
		{elem("a", doc(comment("c"))), elem("a", doc())},
		{elem("a", with(elem("b"), "x", "1", "y", "2")), elem("a", with(elem("b"), "y", "2", "x", "1"))},
		{with(elem("a"), "x", "1", "y", "2", "z", "3"), with(elem("a"), "z", "3", "x", "1", "y", "2")},
		{with(elem("a"), "x", "1", "x", "1", "y", "2"), with(elem("a"), "x", "1", "y", "2", "x", "1")},
		{with(elem("a"), "x", "1", "x", "2"), with(elem("a"), "x", "2", "x", "1")},
		{with(elem("a"), "", ""), with(elem("a"), "", "")},
		{api.Tree{}, api.Tree{}},
	} {
		if !Trees(c.a, c.b) || !Trees(c.b, c.a) {
			t.Errorf("%d: %+v and %+v: not the same", i, c.a, c.b)
		}
	}
}

func TestP71OthersByHand(t *testing.T) {
	for i, c := range []struct{ a, b api.Tree }{
		{elem("a"), elem("A")},
		{elem("a"), elem("")},
		{elem("a"), doc()},
		{attr("x", "1"), attr("x", "2")},
		{attr("x", "1"), attr("y", "1")},
		{attr("x", "1"), attr("1", "x")},
		{attr("x", ""), elem("x")},
		{text("t"), text("u")},
		{text("t"), text("")},
		{text("t"), comment("t")},
		{text("t"), api.Tree{Kind: api.Attr, Value: "t"}},
		{comment("c"), comment("d")},
		{comment("c"), comment("")},
		{elem("a", text("t")), elem("a")},
		{elem("a", text("")), elem("a")},
		{elem("a", text("t"), text("u")), elem("a", text("tu"))},
		{elem("a", text("t"), text("u")), elem("a", text("u"), text("t"))},
		{elem("a", text("t"), text("u")), elem("a", text("t"))},
		{elem("a", text("t"), text("u")), elem("a", text("u"))},
		{elem("a", text("t"), comment("c"), text("u")), elem("a", text("t"), comment("c"))},
		{elem("a", text("c")), elem("a", comment("c"))},
		{doc(elem("a")), doc()},
		{doc(elem("a")), doc(elem("b"))},
		{doc(elem("a"), comment("c"), elem("a")), doc(elem("a"), comment("c"))},
		{doc(elem("a")), elem("a")},
		{elem("a", elem("b", text("t"))), elem("a", elem("b", text("u")))},
		{elem("a", elem("b", text("t"))), elem("a", elem("b"), text("t"))},
		{elem("a", attr("x", "1")), with(elem("a"), "x", "1")},
		{elem("a", api.Tree{}), elem("a")},
		{with(elem("a"), "x", "1"), elem("a")},
		{with(elem("a"), "x", "1"), with(elem("a"), "x", "2")},
		{with(elem("a"), "x", "1"), with(elem("a"), "y", "1")},
		{with(elem("a"), "x", "1"), with(elem("a"), "1", "x")},
		{with(elem("a"), "x", "1", "y", "2"), with(elem("a"), "x", "2", "y", "1")},
		{with(elem("a"), "x", "1", "y", "2"), with(elem("a"), "x", "1", "z", "2")},
		{with(elem("a"), "x", "1", "y", "2"), with(elem("a"), "x", "1")},
		{with(elem("a"), "x", "1", "x", "1", "y", "2"), with(elem("a"), "x", "1", "y", "2", "y", "2")},
		{with(elem("a"), "x", "1", "x", "1"), with(elem("a"), "x", "1", "y", "2")},
		{with(elem("a"), "x", "1", "x", "1"), with(elem("a"), "x", "1")},
		{with(elem("a"), "", ""), elem("a")},
	} {
		if Trees(c.a, c.b) || Trees(c.b, c.a) {
			t.Errorf("%d: %+v and %+v: the same", i, c.a, c.b)
		}
	}
}

// Fields that a Kind should leave empty don't count.
func TestP71FieldsThatDoNotCount(t *testing.T) {
	kids, attrs := []api.Tree{text("k")}, []api.Pair{{Name: "x", Value: "1"}}
	for _, c := range []struct{ a, b api.Tree }{
		{doc(text("t")), api.Tree{Kind: api.Doc, Name: "n", Value: "v", Attrs: attrs, Kids: []api.Tree{text("t")}}},
		{elem("a", text("t")), api.Tree{Kind: api.Elem, Name: "a", Value: "v", Kids: []api.Tree{text("t")}}},
		{attr("a", "v"), api.Tree{Kind: api.Attr, Name: "a", Value: "v", Attrs: attrs, Kids: kids}},
		{text("v"), api.Tree{Kind: api.Text, Name: "n", Value: "v", Attrs: attrs, Kids: kids}},
		{comment("v"), api.Tree{Kind: api.Comment, Name: "n", Value: "v", Attrs: attrs, Kids: kids}},
	} {
		holdTrees(t, c.a, c.b, true)
		holdTrees(t, elem("o", c.a), elem("o", c.b), true)
	}
}

func TestP71NoKind(t *testing.T) {
	for i, one := range noKinds {
		for j, other := range noKinds {
			full := api.Tree{Kind: other, Name: "n", Value: "v", Attrs: []api.Pair{{Name: "x"}}, Kids: []api.Tree{text("t")}}
			holdTrees(t, api.Tree{Kind: one}, full, i == j)
			holdTrees(t, elem("a", api.Tree{Kind: one}), elem("a", full), i == j)
		}
		for _, x := range []api.Tree{doc(), elem(""), attr("", ""), text(""), comment("")} {
			holdTrees(t, api.Tree{Kind: one}, x, false)
		}
	}
}

// Rows of attributes are the same just if they are so when sorted.
func TestP71Attributes(t *testing.T) {
	rows := [][]string{nil}
	for i := 0; i < len(rows) && len(rows[i]) < 3; i++ {
		for _, p := range []string{"x1", "x2", "y1", "1x"} {
			rows = append(rows, append(slices.Clone(rows[i]), p))
		}
	}
	build := func(row []string) api.Tree {
		x := elem("a")
		for _, p := range row {
			x.Attrs = append(x.Attrs, api.Pair{Name: p[:1], Value: p[1:]})
		}
		return x
	}
	for _, a := range rows {
		for _, b := range rows {
			holdTrees(t, build(a), build(b), slices.Equal(slices.Sorted(slices.Values(a)), slices.Sorted(slices.Values(b))))
		}
	}
}

// A letter stands for a kid, c and d for Comments: rows are the same just if they are so without these.
func TestP71Comments(t *testing.T) {
	letters := map[rune]api.Tree{'c': comment("c"), 'd': comment("d"), 't': text("c"), 'e': elem("c"), 'n': elem("c", comment("c"), text("t"))}
	rows := []string{""}
	for i := 0; i < len(rows) && len(rows[i]) < 4; i++ {
		for _, l := range "cdten" {
			rows = append(rows, rows[i]+string(l))
		}
	}
	left := strings.NewReplacer("c", "", "d", "")
	kids := func(row string) []api.Tree {
		var ks []api.Tree
		for _, l := range row {
			ks = append(ks, letters[l])
		}
		return ks
	}
	for _, a := range rows {
		as := kids(a)
		for _, b := range rows {
			bs, want := kids(b), left.Replace(a) == left.Replace(b)
			if Trees(elem("a", as...), elem("a", bs...)) != want || Trees(doc(bs...), doc(as...)) != want {
				t.Fatalf("kids %q and %q: not %v", a, b, want)
			}
		}
	}
}

func TestP71AllShapes(t *testing.T) {
	ts := shapes()
	var ws []string
	for _, x := range ts {
		ws = append(ws, written(x))
	}
	for i, a := range ts {
		for j, b := range ts {
			want := ws[i] == ws[j]
			// As kids two Comments are left out, be they the same or not.
			inside := want || a.Kind == api.Comment && b.Kind == api.Comment
			if Trees(a, b) != want || Trees(elem("o", a, text("t")), elem("o", b, text("t"))) != inside {
				t.Fatalf("%+v and %+v: not %v, as kids %v", a, b, want, inside)
			}
		}
	}
}

func TestP71DeepAndWide(t *testing.T) {
	nested := func(x api.Tree, others int) api.Tree {
		for i := range others {
			if i%2 == 0 {
				x = elem("a", comment("c"), x)
			} else {
				x = with(elem("a", x, text("t")), "x", "1")
			}
		}
		return x
	}
	// Trees as great as these aren't told.
	hold := func(what string, a, b api.Tree, want bool) {
		if Trees(a, b) != want || Trees(b, a) != want {
			t.Errorf("%s: not %v", what, want)
		}
	}
	const deep = 60000
	hold("deep trees", nested(text("t"), deep), nested(text("t"), deep), true)
	hold("deep trees of other Texts", nested(text("t"), deep), nested(text("u"), deep), false)
	hold("trees that aren't equally deep", nested(text("t"), deep), nested(text("t"), deep-2), false)

	var some, turned api.Tree = elem("a"), elem("a")
	for i := range 100000 {
		p := api.Pair{Name: strconv.Itoa(i)}
		some.Attrs, some.Kids = append(some.Attrs, p), append(some.Kids, text(p.Name), comment(""))
	}
	turned.Attrs, turned.Kids = slices.Clone(some.Attrs), slices.Clone(some.Kids)
	slices.Reverse(turned.Attrs)
	hold("attributes turned round", some, turned, true)
	slices.Reverse(turned.Kids)
	hold("kids turned round", some, turned, false)
}
