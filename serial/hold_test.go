package serial_test

import (
	"slices"
	"strings"
	"testing"

	"espalier/api"
	"espalier/atom"
	"espalier/node"
	"espalier/serial"
	"espalier/xml"
)

func doc(kids ...api.Tree) api.Tree { return api.Tree{Kind: api.Doc, Kids: kids} }

func elem(name string, kids ...api.Tree) api.Tree {
	return api.Tree{Kind: api.Elem, Name: name, Kids: kids}
}

func attr(name, value string) api.Tree { return api.Tree{Kind: api.Attr, Name: name, Value: value} }

func text(value string) api.Tree { return api.Tree{Kind: api.Text, Value: value} }

func comment(value string) api.Tree { return api.Tree{Kind: api.Comment, Value: value} }

// with is the tree with these names and values as its attributes.
func with(t api.Tree, words ...string) api.Tree {
	t.Attrs = nil
	for i := 0; i < len(words); i += 2 {
		t.Attrs = append(t.Attrs, api.Pair{Name: words[i], Value: words[i+1]})
	}
	return t
}

// in is the tree in so many Elems a.
func in(count int, t api.Tree) api.Tree {
	for range count {
		t = elem("a", t)
	}
	return t
}

// equal tells whether two trees are the same, field by field; nil and empty lists are one.
func equal(a, b api.Tree) bool {
	return a.Kind == b.Kind && a.Name == b.Name && a.Value == b.Value && slices.Equal(a.Attrs, b.Attrs) && slices.EqualFunc(a.Kids, b.Kids, equal)
}

// short is as much of a text as can be told.
func short(s string) string {
	const most = 300
	if len(s) > most {
		return s[:most] + " .."
	}
	return s
}

// hold holds what Tree answers of these trees against a text.
func hold(t *testing.T, want string, ts ...api.Tree) {
	t.Helper()
	if s, e := serial.Tree(ts...); s != want || e != api.OK {
		t.Errorf("Tree: %q, %v; not %q", short(s), e, short(want))
	}
}

// refuse holds Tree to ErrSerial, and to no text beside it.
func refuse(t *testing.T, ts ...api.Tree) {
	t.Helper()
	if s, e := serial.Tree(ts...); s != "" || e != api.ErrSerial {
		t.Errorf("Tree: %q, %v; not ErrSerial", short(s), e)
	}
}

// store has the nodes of these trees.
func store(t *testing.T, ts ...api.Tree) *node.Store {
	t.Helper()
	s, e := node.New(api.MaxNodes)
	for _, x := range ts {
		if e == api.OK {
			_, e = s.Build(x)
		}
	}
	if e != api.OK {
		t.Fatalf("no store: %v", e)
	}
	return s
}

// nodes are the items of nodes with these numbers.
func nodes(ns ...int) []api.Item {
	var items []api.Item
	for _, n := range ns {
		items = append(items, api.Item{Node: n})
	}
	return items
}

// atoms are the items of these values.
func atoms(as ...api.Atom) []api.Item {
	var items []api.Item
	for _, a := range as {
		items = append(items, api.Item{Atom: a})
	}
	return items
}

// texts are the items of Strs.
func texts(ss ...string) []api.Item {
	var items []api.Item
	for _, s := range ss {
		items = append(items, api.Item{Atom: atom.Text(s)})
	}
	return items
}

// row is items one behind the other.
func row(parts ...[]api.Item) []api.Item { return slices.Concat(parts...) }

// holdItems holds what Items answers of these items against a text.
func holdItems(t *testing.T, s *node.Store, want string, items ...api.Item) {
	t.Helper()
	if got, e := serial.Items(s, items...); got != want || e != api.OK {
		t.Errorf("Items of %v: %q, %v; not %q", items, short(got), e, short(want))
	}
}

// refuseItems holds Items to ErrSerial, and to no text beside it.
func refuseItems(t *testing.T, s *node.Store, items ...api.Item) {
	t.Helper()
	if got, e := serial.Items(s, items...); got != "" || e != api.ErrSerial {
		t.Errorf("Items of %v: %q, %v; not ErrSerial", items, short(got), e)
	}
}

// back holds what Parse makes of the text that Tree answers against the tree: the text.
func back(t *testing.T, x api.Tree) string {
	t.Helper()
	s, e := serial.Tree(x)
	got, f := xml.Parse(s)
	if e != api.OK || f != api.OK || !equal(got, x) {
		t.Errorf("written %q, %v; read again: %v, the same: %v", short(s), e, f, equal(got, x))
	}
	return s
}

// spelling is the chapter's list of the bytes of a text that have references.
func spelling() *strings.Replacer {
	return strings.NewReplacer("&", "&amp;", "<", "&lt;", ">", "&gt;", "\r", "&#13;")
}

// quoting is its list of those of a value.
func quoting() *strings.Replacer {
	return strings.NewReplacer("&", "&amp;", "<", "&lt;", "\"", "&quot;", "\t", "&#9;", "\n", "&#10;", "\r", "&#13;")
}

// form is the chapter's form of a tree once more, and whether there is one: made from the inside, each part whole, by texts alone.
func form(t api.Tree) (string, bool) {
	inner, formed := "", true
	if t.Kind == api.Doc || t.Kind == api.Elem {
		for _, k := range t.Kids {
			s, ok := form(k)
			inner, formed = inner+s, formed && ok
		}
	}
	switch t.Kind {
	case api.Doc:
		return inner, formed
	case api.Elem:
		tag := t.Name
		for _, a := range t.Attrs {
			tag += " " + a.Name + "=\"" + quoting().Replace(a.Value) + "\""
		}
		if len(t.Kids) == 0 {
			return "<" + tag + "/>", true
		}
		return "<" + tag + ">" + inner + "</" + t.Name + ">", formed
	case api.Text:
		return spelling().Replace(t.Value), true
	case api.Comment:
		return "<!--" + t.Value + "-->", !strings.Contains(t.Value+"-", "--")
	}
	return "", false
}

// judged holds Tree of these trees to form: had each of them one?
func judged(t *testing.T, ts ...api.Tree) bool {
	t.Helper()
	want, formed := "", true
	for _, x := range ts {
		s, ok := form(x)
		want, formed = want+s, formed && ok
	}
	if formed {
		hold(t, want, ts...)
	} else {
		refuse(t, ts...)
	}
	return formed
}
