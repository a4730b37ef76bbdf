package xml_test

import (
	"fmt"
	"slices"
	"strings"
	"testing"

	"espalier/api"
	"espalier/node"
	"espalier/xml"
)

func doc(kids ...api.Tree) api.Tree { return api.Tree{Kind: api.Doc, Kids: kids} }

func elem(name string, kids ...api.Tree) api.Tree {
	return api.Tree{Kind: api.Elem, Name: name, Kids: kids}
}

func text(value string) api.Tree { return api.Tree{Kind: api.Text, Value: value} }

func comment(value string) api.Tree { return api.Tree{Kind: api.Comment, Value: value} }

// with is the tree with these names and values as its attributes.
func with(t api.Tree, words ...string) api.Tree {
	t.Attrs = nil
	for i := 0; i < len(words); i += 2 {
		t.Attrs = append(t.Attrs, api.Pair{Name: words[i], Value: words[i+1]})
	}
	return t
}

// one is the document of an Elem a with these kids.
func one(kids ...api.Tree) api.Tree { return doc(elem("a", kids...)) }

// equal tells whether two trees are the same, field by field; nil and empty lists are one.
func equal(a, b api.Tree) bool {
	return a.Kind == b.Kind && a.Name == b.Name && a.Value == b.Value && slices.Equal(a.Attrs, b.Attrs) && slices.EqualFunc(a.Kids, b.Kids, equal)
}

// short is as much of a text as can be told.
func short(s string) string {
	const most = 300
	if len(s) > most {
		return s[:most] + " .."
	}
	return s
}

// told is as much of what Parse answers of a text as can be told.
func told(s string) string {
	got, e := xml.Parse(s)
	return fmt.Sprintf("%q: %v, %s, right %v", short(s), e, short(fmt.Sprintf("%+v", got)), node.Right(got))
}

// holds tells whether Parse answers this tree, or this error and no tree; what it answers must be right.
func holds(s string, want api.Tree, err api.Errno) bool {
	got, e := xml.Parse(s)
	return e == err && equal(got, want) && (e != api.OK || node.Right(got))
}

// hold holds what Parse answers of a text against this tree.
func hold(t *testing.T, s string, want api.Tree) {
	t.Helper()
	if !holds(s, want, api.OK) {
		t.Errorf("%s; not %s", told(s), short(fmt.Sprintf("%+v", want)))
	}
}

// refuse holds Parse to this error, and to no tree beside it.
func refuse(t *testing.T, err api.Errno, texts ...string) {
	t.Helper()
	for _, s := range texts {
		if !holds(s, api.Tree{}, err) {
			t.Errorf("%s; not %v", told(s), err)
		}
	}
}

// in is the text in so many elements.
func in(count int, inner string) string {
	return strings.Repeat("<a>", count) + inner + strings.Repeat("</a>", count)
}

// inTree is the document of these kids in so many elements.
func inTree(count int, kids ...api.Tree) api.Tree {
	for range count {
		kids = []api.Tree{elem("a", kids...)}
	}
	return doc(kids...)
}
