package pure_test

import (
	"testing"

	"espalier/api"
)

// lookers are what looks at the focus by itself.
func lookers() []api.Expr {
	es := []api.Expr{expr(api.Dot), expr(api.Root), named(api.Call, "position"), named(api.Call, "last")}
	for axis := api.Axis(1); axis < api.Axes; axis++ {
		for test := range api.TestKind(api.Tests) {
			es = append(es, api.Expr{Op: api.Step, Axis: axis, Test: api.Test{Kind: test, Name: "a"}})
		}
	}
	return es
}

func holdFocus(t *testing.T, e api.Expr, want bool) {
	t.Helper()
	if got := tell(t, e).focus; got != want {
		t.Errorf("Focus of %s: %v", show(e), got)
	}
}

// What looks at the focus, alone and in each Kid of a Path and of a Filter, and of these within one another.
func TestP161Focus(t *testing.T) {
	x := variable("x")
	ops := []api.Op{api.Path, api.Filter}
	for _, e := range lookers() {
		holdFocus(t, e, true)
		holdFocus(t, expr(api.Seq, x, e), true)
		for _, outer := range ops {
			holdFocus(t, expr(outer, e, x), true)
			holdFocus(t, expr(outer, x, e), false)
			holdFocus(t, expr(outer, e, e), true)
			holdFocus(t, expr(api.Seq, e, expr(outer, x, e)), true)
			holdFocus(t, expr(api.Seq, expr(outer, x, e), expr(outer, x, e)), false)
			holdFocus(t, expr(outer, expr(api.Seq, x, e), x), true)
			holdFocus(t, expr(outer, x, expr(api.Seq, x, e)), false)
			for _, inner := range ops {
				holdFocus(t, expr(outer, expr(inner, e, x), x), true)
				holdFocus(t, expr(outer, expr(inner, x, e), x), false)
				holdFocus(t, expr(outer, x, expr(inner, e, x)), false)
				holdFocus(t, expr(outer, x, expr(inner, x, e)), false)
				holdFocus(t, expr(outer, expr(inner, x, e), e), false)
				holdFocus(t, expr(outer, expr(inner, e, x), e), true)
				for _, third := range ops {
					holdFocus(t, expr(outer, expr(inner, expr(third, e, x), e), e), true)
					holdFocus(t, expr(outer, expr(inner, expr(third, x, e), e), e), false)
					holdFocus(t, expr(outer, x, expr(inner, expr(third, e, e), e)), false)
				}
			}
		}
	}
}

// A focus is new in a second Kid alone, not in what binds a name, nor in what is bound.
func TestP161FocusIsNewInTwo(t *testing.T) {
	for _, row := range rows {
		for _, count := range row.kids {
			for i := range count {
				e := named(row.op, "x")
				for range count {
					e.Kids = append(e.Kids, number(1))
				}
				e.Kids[i] = expr(api.Dot)
				isNew := i == 1 && (row.op == api.Path || row.op == api.Filter)
				holdFocus(t, e, !isNew)
			}
		}
	}
}

// Kids that no Path has: of them the words say that they look at the focus around.
func TestP161FocusOfWrong(t *testing.T) {
	x, dot := variable("x"), expr(api.Dot)
	for _, op := range []api.Op{api.Path, api.Filter} {
		holdFocus(t, expr(op), false)
		holdFocus(t, expr(op, x), false)
		holdFocus(t, expr(op, dot), true)
		holdFocus(t, expr(op, x, dot, x), false)
		holdFocus(t, expr(op, x, x, dot), true)
		holdFocus(t, expr(op, dot, x, x), true)
		holdFocus(t, expr(op, x, dot, x, dot), true)
		holdFocus(t, expr(op, x, dot, x, x), false)
	}
}
