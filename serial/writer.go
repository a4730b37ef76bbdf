package serial

import (
	"strings"

	"espalier/api"
	"espalier/atom"
	"espalier/node"
)

// writer is a builder that knows the forms of things. Where it is asked for a form that there isn't, it may have written part of what is around it.
type writer struct {
	strings.Builder
}

// answer is what was written, or nothing at all, if not everything had a form.
func (w *writer) answer(formed bool) (string, api.Errno) {
	if !formed {
		return "", api.ErrSerial
	}
	return w.String(), api.OK
}

// items writes the items of a sequence: has each a form?
func (w *writer) items(s *node.Store, items []api.Item) bool {
	for i, x := range items {
		if i > 0 && !nodal(x) && !nodal(items[i-1]) {
			w.put(" ")
		}
		if !w.item(s, x) {
			return false
		}
	}
	return true
}

// item writes one item: has it a form?
func (w *writer) item(s *node.Store, x api.Item) bool {
	// The store is asked for nodes alone: where there is none, there may be no store. Of a number that is none of its nodes it has the zero Tree, which has no form.
	if nodal(x) {
		return w.tree(s.Tree(x.Node))
	}
	w.spell(atom.String(x.Atom), inText)
	return true
}

// nodal tells whether an item is a node, be it none of the store's; every other item is atomic.
func nodal(x api.Item) bool {
	return x.Node > 0
}

// trees writes the trees one behind the other: has each a form?
func (w *writer) trees(ts []api.Tree) bool {
	for _, t := range ts {
		if !w.tree(t) {
			return false
		}
	}
	return true
}

// tree writes a tree of any form: has it one?
func (w *writer) tree(t api.Tree) bool {
	switch t.Kind {
	case api.Doc:
		return w.trees(t.Kids)
	case api.Elem:
		return w.element(t)
	case api.Text:
		w.spell(t.Value, inText)
		return true
	case api.Comment:
		return w.comment(t.Value)
	}
	return false
}

// element writes an Elem: have all its kids a form?
func (w *writer) element(t api.Tree) bool {
	w.put("<", t.Name)
	for _, a := range t.Attrs {
		w.put(" ", a.Name, `="`)
		w.spell(a.Value, inValue)
		w.put(`"`)
	}
	if len(t.Kids) == 0 {
		w.put("/>")
		return true
	}
	w.put(">")
	formed := w.trees(t.Kids)
	w.put("</", t.Name, ">")
	return formed
}

// comment writes a Comment: has it a form?
func (w *writer) comment(value string) bool {
	if strings.Contains(value, "--") || strings.HasSuffix(value, "-") {
		return false
	}
	w.put("<!--", value, "-->")
	return true
}

// put writes words as they are.
func (w *writer) put(words ...string) {
	for _, s := range words {
		w.WriteString(s)
	}
}

// spell writes a text byte by byte, so that what is no UTF-8 stays as it is: a byte's reference, where it has one.
func (w *writer) spell(s string, reference func(c byte) string) {
	from := 0
	for at := range len(s) {
		if r := reference(s[at]); r != "" {
			w.put(s[from:at], r)
			from = at + 1
		}
	}
	w.put(s[from:])
}

// inText is the reference for a byte of a text, if it has one.
func inText(c byte) string {
	switch c {
	case '&':
		return "&amp;"
	case '<':
		return "&lt;"
	case '>':
		return "&gt;"
	case '\r':
		return "&#13;"
	}
	return ""
}

// inValue is the reference for a byte of an attribute's value, if it has one.
func inValue(c byte) string {
	switch c {
	case '&':
		return "&amp;"
	case '<':
		return "&lt;"
	case '"':
		return "&quot;"
	case '\t':
		return "&#9;"
	case '\n':
		return "&#10;"
	case '\r':
		return "&#13;"
	}
	return ""
}
