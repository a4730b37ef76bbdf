package pure

import (
	"espalier/api"
	"espalier/scope"
)

// safe tells whether an expression is such that it never means an error, whatever its variables are.
func safe(e api.Expr) bool {
	switch e.Op {
	case api.Lit, api.Var:
		return true
	case api.Seq, api.Instance, api.Castable, api.Let, api.For:
		return Safe(e.Kids...)
	case api.Call:
		return takesAny(e.Name) && scope.Known(e.Name, len(e.Kids)) && Safe(e.Kids...)
	}
	return false
}

// takesAny tells whether a function answers whatever its arguments are.
func takesAny(name string) bool {
	switch name {
	case "count", "empty", "exists", "true", "false", "reverse", "data":
		return true
	}
	return false
}

// fresh tells whether an expression may make nodes. Of a function that is declared nothing is known here, so it may.
func fresh(e api.Expr) bool {
	switch e.Op {
	case api.MakeElem, api.MakeAttr, api.MakeText, api.MakeCom, api.MakeDoc:
		return true
	case api.Call:
		if !scope.Known(e.Name, len(e.Kids)) {
			return true
		}
	}
	return Fresh(e.Kids...)
}

// looks tells whether an expression looks at the focus that is around it.
func looks(e api.Expr) bool {
	switch e.Op {
	case api.Dot, api.Root, api.Step:
		return true
	case api.Call:
		if e.Name == "position" || e.Name == "last" {
			return true
		}
	case api.Path, api.Filter:
		// The second Kid has a focus of its own.
		if len(e.Kids) > 1 {
			return Focus(e.Kids[0]) || Focus(e.Kids[2:]...)
		}
	}
	return Focus(e.Kids...)
}
