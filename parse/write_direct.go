package parse

import (
	"strconv"
	"strings"

	"espalier/api"
	"espalier/char"
)

// direct writes a Direct.
func (w *writer) direct(e api.Expr) {
	w.put("<", e.Name)
	content := e.Kids
	for len(content) > 0 && content[0].Op == api.DirAttr {
		w.put(" ", content[0].Name, `="`)
		w.value(content[0].Kids)
		w.put(`"`)
		content = content[1:]
	}
	if len(content) == 0 {
		w.put("/>")
		return
	}
	w.put(">")
	w.content(content)
	w.put("</", e.Name, ">")
}

// value writes what stands in an attribute's value.
func (w *writer) value(parts []api.Expr) {
	for _, e := range parts {
		if isText(e) {
			w.put(valueText(e.Val.S))
		} else {
			w.enclosed(e)
		}
	}
}

// content writes what stands between an element's tags.
func (w *writer) content(parts []api.Expr) {
	for _, e := range parts {
		switch {
		case isText(e):
			w.put(contentText(e.Val.S))
		case e.Op == api.Direct:
			w.direct(e)
		default:
			w.enclosed(e)
		}
	}
}

// isText tells whether an expression is text of a Direct.
func isText(e api.Expr) bool {
	return e.Op == api.Lit && e.Val.Kind == api.Untyped
}

// valueText is a text as it stands in a value in double quotes.
func valueText(s string) string {
	return strings.NewReplacer("{", "{{", "}", "}}", "<", "&lt;", "&", "&amp;", `"`, `""`, "\t", "&#9;", "\n", "&#10;", "\r", "&#13;").Replace(s)
}

// contentText is a text as it stands between tags.
func contentText(s string) string {
	// Spaces alone count only where one of them is a reference.
	if s != "" && char.Trim(s) == "" {
		return "&#" + strconv.Itoa(int(s[0])) + ";" + s[1:]
	}
	return strings.NewReplacer("{", "{{", "}", "}}", "<", "&lt;", "&", "&amp;").Replace(s)
}
