package opt_test

import (
	"fmt"
	"strings"
	"testing"

	"espalier/api"
	"espalier/norm"
	"espalier/parse"
)

func whole(n int) api.Atom { return api.Atom{Kind: api.Int, N: n} }

func dec(n, scale int) api.Atom { return api.Atom{Kind: api.Dec, N: n, Scale: scale} }

func text(s string) api.Atom { return api.Atom{Kind: api.Str, S: s} }

func raw(s string) api.Atom { return api.Atom{Kind: api.Untyped, S: s} }

func truth(b bool) api.Atom { return api.Atom{Kind: api.Bool, B: b} }

func expr(op api.Op, kids ...api.Expr) api.Expr { return api.Expr{Op: op, Kids: kids} }

func named(op api.Op, name string, kids ...api.Expr) api.Expr {
	return api.Expr{Op: op, Name: name, Kids: kids}
}

func typed(op api.Op, ty api.SeqType, kids ...api.Expr) api.Expr {
	return api.Expr{Op: op, Type: ty, Kids: kids}
}

func of(item api.ItemKind, occ api.Occ) api.SeqType { return api.SeqType{Item: item, Occ: occ} }

func variable(name string) api.Expr { return named(api.Var, name) }

func lit(a api.Atom) api.Expr { return api.Expr{Op: api.Lit, Val: a} }

func number(n int) api.Expr { return lit(whole(n)) }

func str(s string) api.Expr { return lit(text(s)) }

func yes() api.Expr { return lit(truth(true)) }

func no() api.Expr { return lit(truth(false)) }

// fault means an error, of any environment.
func fault() api.Expr { return expr(api.Div, number(1), number(0)) }

func step() api.Expr {
	return api.Expr{Op: api.Step, Axis: api.Child, Test: api.Test{Kind: api.Named, Name: "a"}}
}

// front declares what texts use beside what they bind.
const front = "declare function local:f() {1}; declare function local:g($a as xs:integer) as xs:string {'a'}; "

// coreOf is the core of a query's text, in front of which v, u and x are declared.
func coreOf(t *testing.T, s string) api.Expr {
	t.Helper()
	return moduleOf(t, front+"declare variable $v := 1; declare variable $u := 1; declare variable $x := 1; "+s).Body
}

func moduleOf(t *testing.T, s string) api.Module {
	t.Helper()
	m, err := parse.Parse(s)
	if err != api.OK {
		t.Fatalf("Parse(%q): %v", short(s), err)
	}
	core, err := norm.Core(m)
	if err != api.OK {
		t.Fatalf("Core(%q): %v", short(s), err)
	}
	return core
}

// show is an expression for a reader of what the tests tell.
func show(e api.Expr) string {
	var w strings.Builder
	write(&w, e)
	return short(w.String())
}

func write(w *strings.Builder, e api.Expr) {
	const most = 400
	if w.Len() > most {
		return
	}
	fmt.Fprintf(w, "op%d", e.Op)
	if e.Op == api.Lit {
		fmt.Fprintf(w, " %+v", e.Val)
	}
	if e.Type != (api.SeqType{}) {
		w.WriteString(" " + parse.Type(e.Type))
	}
	for _, name := range []string{e.Name, e.At, e.Test.Name} {
		if name != "" {
			fmt.Fprintf(w, " %s", name)
		}
	}
	for i, kid := range e.Kids {
		w.WriteString(map[bool]string{true: "(", false: ", "}[i == 0])
		write(w, kid)
	}
	if len(e.Kids) > 0 {
		w.WriteString(")")
	}
}

// short is as much of a text as can be told.
func short(s string) string {
	const most = 300
	if len(s) > most {
		return s[:most] + " .."
	}
	return s
}
