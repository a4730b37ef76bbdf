package infer_test

import (
	"testing"

	"espalier/api"
)

// holdExpr holds Expr in the scope of some variables to a type.
func holdExpr(t *testing.T, vars []api.Param, e api.Expr, want string) {
	t.Helper()
	if got := typeText(found(t, api.Module{}, vars, e)); got != want {
		t.Errorf("Expr of %s in %v: %s, not %s", show(e), vars, got, want)
	}
}

func TestP151Variables(t *testing.T) {
	whole, text, truth := of(api.IntItem, api.One), of(api.StrItem, api.Plus), of(api.BoolItem, api.Opt)
	holdExpr(t, nil, variable("x"), "item()*")
	holdExpr(t, []api.Param{{Name: "y", Type: whole}}, variable("x"), "item()*")
	holdExpr(t, []api.Param{{Name: "x", Type: whole}}, variable("x"), "xs:integer")
	holdExpr(t, []api.Param{{Name: "x", Type: whole}, {Name: "y", Type: truth}, {Name: "x", Type: text}}, variable("x"), "xs:string+")
	holdExpr(t, []api.Param{{Name: "x", Type: whole}, {Name: "y", Type: truth}, {Name: "x", Type: text}}, variable("y"), "xs:boolean?")
	holdExpr(t, []api.Param{{Name: "x", Type: text}, {Name: "x", Type: text}, {Name: "x", Type: whole}}, variable("x"), "xs:integer")
	holdExpr(t, []api.Param{{Name: "x", Type: text}}, expr(api.Neg, variable("x")), clash)
	holdExpr(t, nil, expr(api.Neg, variable("x")), "xs:decimal?")
}

// A Global is none of the variables of Expr, but of Module.
func TestP151GlobalIsNotListed(t *testing.T) {
	m := api.Module{Globals: []api.Global{{Name: "x", Type: of(api.IntItem, api.One), Body: number(1)}}, Body: variable("x")}
	if got, ok := found(t, m, nil, m.Body); got != of(api.AnyItem, api.Star) || !ok {
		t.Errorf("Expr of a Global: %v", got)
	}
	if got, ok := found(t, m, []api.Param{{Name: "x", Type: of(api.StrItem, api.Opt)}}, m.Body); got != of(api.StrItem, api.Opt) || !ok {
		t.Errorf("Expr of a Global that is listed: %v", got)
	}
	if got, ok := foundModule(t, m); got != of(api.IntItem, api.One) || !ok {
		t.Errorf("Module of a Global: %v", got)
	}
}

// What is handed to Expr beside the expression is not looked at for clashes.
func TestP151OnlyTheExpression(t *testing.T) {
	wrong := expr(api.Neg, str("a"))
	m := api.Module{Globals: []api.Global{{Name: "x", Body: wrong}}, Funcs: []api.Func{{Name: "local:f", Body: wrong}}, Body: wrong}
	if got, ok := found(t, m, nil, number(1)); got != of(api.IntItem, api.One) || !ok {
		t.Errorf("Expr beside clashes: %v", got)
	}
	if got, ok := found(t, m, nil, named(api.Call, "local:f")); got != (api.SeqType{}) || !ok {
		t.Errorf("Expr of a call of what clashes: %v", got)
	}
}

// binders are expressions that bind x, what is asked for within being the last Kid, and the type of x there; two of them bind another name, too.
func binders() []struct {
	e    func(within api.Expr) api.Expr
	want string
} {
	return []struct {
		e    func(within api.Expr) api.Expr
		want string
	}{
		{func(w api.Expr) api.Expr { return named(api.For, "x", str("a"), w) }, "xs:string"},
		{func(w api.Expr) api.Expr {
			return api.Expr{Op: api.For, Name: "y", At: "x", Kids: []api.Expr{str("a"), w}}
		}, "xs:integer"},
		{func(w api.Expr) api.Expr { return named(api.Let, "x", expr(api.Seq, str("a"), str("b")), w) }, "xs:string+"},
		{func(w api.Expr) api.Expr { return named(api.Let, "x", expr(api.Seq), w) }, "empty-sequence()"},
	}
}

// A variable hides another one of its name, as long as it is in scope itself.
func TestP151Hiding(t *testing.T) {
	vars := []api.Param{{Name: "x", Type: of(api.DecItem, api.Star)}}
	x := variable("x")
	for i, b := range binders() {
		holdExpr(t, vars, b.e(x), b.want)
		holdExpr(t, nil, b.e(x), b.want)
		beside := expr(api.If, number(1), b.e(number(1)), x)
		holdExpr(t, vars, beside, "xs:decimal*")
		holdExpr(t, nil, beside, "item()*")
		// Behind it, and ahead of it, it is another one; twice hidden, it comes back twice.
		both := expr(api.Path, expr(api.Seq, b.e(variable("nowhere")), variable("nowhere")), x)
		holdExpr(t, vars, both, "xs:decimal*")
		holdExpr(t, nil, both, "item()*")
		for j, c := range binders() {
			holdExpr(t, vars, expr(api.Path, b.e(expr(api.Path, variable("nowhere"), c.e(variable("nowhere")))), x), "xs:decimal*")
			got := typeText(found(t, api.Module{}, vars, expr(api.Path, variable("nowhere"), b.e(expr(api.Filter, expr(api.Seq, expr(api.Path, c.e(variable("nowhere")), expr(api.Seq)), x), number(1))))))
			want := map[string]string{"xs:string": "xs:string*", "xs:integer": "xs:integer*", "xs:string+": "xs:string*", "empty-sequence()": "empty-sequence()"}[b.want]
			if got != want {
				t.Errorf("in the binder %d, behind the binder %d: %s, not %s", i, j, got, want)
			}
		}
	}
}

func TestP151HidingRows(t *testing.T) {
	holdRows(t, []row{
		{`let $x := 1 return (let $x := "a" return $x, $x)`, "xs:anyAtomicType+"},
		{`let $x := 1 return (let $x := "a" return 1, $x)`, "xs:integer+"},
		{`let $x := 1 let $x := ($x, "a") return $x`, "xs:anyAtomicType+"},
		{`for $x in (1, 2) for $x in ($x, 2.5) return $x`, "xs:decimal+"},
		{`let $x := 1 return (for $x in "a" return 1, $x + 1)`, "xs:integer+"},
		{`let $x := 1 return (for $x in $x return $x + 1)`, "xs:integer"},
		{`let $x := "a" return (for $x in (1, 2) return $x + 1)`, "xs:integer+"},
		{`let $p := "a" return (for $x at $p in $p return $p + 1)`, "xs:integer"},
		{`let $p := "a" return (for $x at $p in 1 return 1, $p + 1)`, clash},
		{`let $x := "a" return (some $x in 1 satisfies $x + 1, $x)`, "xs:anyAtomicType+"},
		{`let $x := "a" return (some $x in 1 satisfies 1, $x + 1)`, clash},
		{`let $x := 1 return (some $x in "a" satisfies 1, $x + 1)`, "xs:anyAtomicType+"},
		{`let $x := "a" return (every $x in 1 satisfies $x + 1)`, "xs:boolean"},
		{`let $x := "a" return (for $x in (1, 2) where $x + 1 order by $x + 1 return $x + 1)`, "xs:integer*"},
		{`let $x := 1 return (for $x in "a" order by $x return 1, $x + 1)`, "xs:integer+"},
		{`let $x := "a" return typeswitch ($x) case $x as xs:integer return $x + 1 default return 1`, "xs:integer"},
		{`let $x := "a" return typeswitch (a) case $x as xs:integer return 1 default return $x + 1`, clash},
		{`let $x := 1 return typeswitch (a) case $x as xs:string return 1 default return $x + 1`, "xs:integer"},
		{`let $x := "a" return typeswitch (1) case xs:string return 1 default $x return $x + 1`, "xs:integer"},
		{`let $x := 1 return (typeswitch ("a") case xs:string return 1 default $x return 1, $x + 1)`, "xs:integer+"},
	})
}
