package pure_test

import (
	"fmt"
	"strings"

	"espalier/api"
	"espalier/parse"
)

// show is an expression for a reader of what the tests tell.
func show(e api.Expr) string {
	var w strings.Builder
	write(&w, e)
	return short(w.String())
}

func write(w *strings.Builder, e api.Expr) {
	fmt.Fprintf(w, "op%d", e.Op)
	switch e.Op {
	case api.Lit:
		fmt.Fprintf(w, " %+v", e.Val)
	case api.Step:
		fmt.Fprintf(w, " axis %d test %v", e.Axis, e.Test)
	case api.Cast, api.Treat, api.Convert, api.Case, api.Instance, api.Castable:
		w.WriteString(" " + parse.Type(e.Type))
	}
	if e.Name != "" {
		w.WriteString(" $" + e.Name)
	}
	if e.At != "" {
		w.WriteString(" at $" + e.At)
	}
	if len(e.Kids) > 0 {
		w.WriteString("(")
		for i, kid := range e.Kids {
			if i > 0 {
				w.WriteString(", ")
			}
			write(w, kid)
		}
		w.WriteString(")")
	}
}

// short is as much of a text as can be told.
func short(s string) string {
	const most = 300
	if len(s) > most {
		return s[:most] + " .."
	}
	return s
}
