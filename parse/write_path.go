package parse

import (
	"strings"

	"espalier/api"
	"espalier/atom"
)

// path writes a Path.
func (w *writer) path(e api.Expr, next string) {
	from, sign := kid(e, 0), "/"
	if from.Op == api.Path && isBelow(kid(from, 1)) {
		from, sign = kid(from, 0), "//"
	}
	// A path from the root begins with the sign itself.
	if from.Op != api.Root {
		w.expr(from, pathLevel, sign)
	}
	w.put(sign)
	w.expr(kid(e, 1), stepLevel, next)
}

// isBelow tells whether an expression is the step that // stands for.
func isBelow(e api.Expr) bool {
	return e.Op == api.Step && e.Axis == api.DescSelf && e.Test == api.Test{Kind: api.AnyNode}
}

// step writes what stands in a path between the signs.
func (w *writer) step(e api.Expr) {
	switch e.Op {
	case api.Lit:
		w.put(litText(e.Val))
	case api.Var:
		w.put("$", e.Name)
	case api.Dot:
		w.put(".")
	case api.Step:
		w.put(stepText(e))
	case api.Filter:
		w.expr(kid(e, 0), stepLevel, "[")
		w.put("[")
		w.expr(kid(e, 1), listLevel, "]")
		w.put("]")
	case api.Direct:
		w.direct(e)
	case api.Call:
		w.call(callName(e.Name), e.Kids)
	default:
		if m, ok := makerOf(e.Op); ok {
			w.computed(m, e)
			return
		}
		// No tree that was read has such expressions.
		w.call("", e.Kids)
	}
}

// litText is a value's text. What isn't right can't have been read; it may have a text beyond all bounds.
func litText(a api.Atom) string {
	if !atom.Right(a) {
		return "()"
	}
	text := atom.String(a)
	switch {
	case a.Kind == api.Dec && a.Scale == 0:
		return text + ".0"
	case atom.Numeric(a):
		return text
	}
	quote := `"`
	if strings.Count(text, `"`) > strings.Count(text, "'") {
		quote = "'"
	}
	return quote + strings.NewReplacer(quote, quote+quote, "&", "&amp;").Replace(text) + quote
}

// stepText is a step's axis, where it doesn't go without saying, and its test.
func stepText(e api.Expr) string {
	test := testText(e.Test)
	attribute := e.Test.Kind == api.AttrTest
	switch {
	case e.Axis == api.Parent && e.Test == api.Test{Kind: api.AnyNode}:
		return ".."
	case e.Axis == api.Child && !attribute || e.Axis == api.Attribute && attribute:
		return test
	case e.Axis == api.Attribute:
		return "@" + test
	case e.Axis <= 0 || e.Axis >= api.Axes:
		return "()"
	}
	return axes[e.Axis] + "::" + test
}

// testText is a test's text.
func testText(t api.Test) string {
	switch t.Kind {
	case api.AnyElem:
		return "*"
	case api.Named:
		return t.Name
	}
	for _, k := range kinds {
		if k.test == t.Kind {
			return k.text(t.Name)
		}
	}
	return ""
}

// itemText is the text of a type that says nothing of how many there are.
func itemText(t api.SeqType) string {
	for _, a := range atomTypes {
		if a.item == t.Item {
			return a.word
		}
	}
	for _, k := range kinds {
		if k.item == t.Item {
			return k.text(t.Name)
		}
	}
	return "item()"
}

// text is a test with parentheses, and that name in them, if one may stand there.
func (k kind) text(name string) string {
	if !k.named() {
		name = ""
	}
	return k.word + "(" + name + ")"
}

// callName is a function's name as it is called: where it would be read as another thing, with a prefix that is read away.
func callName(name string) string {
	if name == "if" || name == "typeswitch" {
		return "fn:" + name
	}
	for _, k := range kinds {
		if k.word == name {
			return "fn:" + name
		}
	}
	return name
}

// call writes a call.
func (w *writer) call(name string, args []api.Expr) {
	w.put(name, "(")
	w.list(args, ")")
	w.put(")")
}

// makerOf is the word for what makes such things; false, if there is none.
func makerOf(op api.Op) (maker, bool) {
	for _, m := range makers {
		if m.op == op {
			return m, true
		}
	}
	return maker{}, false
}

// computed writes what such a word makes.
func (w *writer) computed(m maker, e api.Expr) {
	w.put(m.word, " ")
	content := kid(e, 0)
	if e.Name != "" {
		w.put(e.Name, " ")
	} else if m.named() {
		w.enclosed(content)
		w.put(" ")
		content = kid(e, 1)
	}
	if content.Op == api.Seq && len(content.Kids) == 0 {
		w.put("{}")
		return
	}
	w.enclosed(content)
}
