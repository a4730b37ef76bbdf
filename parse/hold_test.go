package parse_test

import (
	"fmt"
	"slices"
	"strconv"
	"strings"
	"testing"

	"espalier/api"
	"espalier/parse"
)

// words are the names of the Ops in what show tells.
var words = strings.Fields("lit var dot seq range add sub mul div idiv mod neg veq vne vlt vle vgt vge geq gne glt gle ggt gge is before after and or if for let order some every root path step filter union inter except instance cast castable treat switch case call elem attr text com doc flwor where direct dirattr convert ebv")

var (
	axisNames = strings.Fields("child descendant attribute self descendant-or-self following-sibling parent ancestor preceding-sibling ancestor-or-self")
	testNames = strings.Fields("node() * named text() comment() element attribute document-node()")
	itemNames = strings.Fields("none integer decimal string boolean untyped atomic doc elem attr text com node any")
)

func opName(op api.Op) string {
	if op < 1 || int(op) > len(words) {
		return "op" + strconv.Itoa(int(op))
	}
	return words[op-1]
}

// show tells a tree, each of its fields that isn't zero: no two trees are told alike.
func show(e api.Expr) string {
	parts := append(fields(e), kids(e.Kids)...)
	if e.Op == api.Lit && len(parts) == 1 || e.Op == api.Var && len(parts) == 1 && e.Name != "" {
		return strings.TrimPrefix(parts[0], "name=")
	}
	return "(" + strings.Join(append([]string{opName(e.Op)}, parts...), " ") + ")"
}

func kids(es []api.Expr) []string {
	var all []string
	for _, e := range es {
		all = append(all, show(e))
	}
	return all
}

// fields are those of an expression that aren't zero, without its Op and Kids.
func fields(e api.Expr) []string {
	var all []string
	if e.Op == api.Var && e.Name != "" {
		all = append(all, "$"+e.Name)
	} else if e.Name != "" {
		all = append(all, "name="+e.Name)
	}
	if e.At != "" {
		all = append(all, "at="+e.At)
	}
	if e.Val != (api.Atom{}) {
		all = append(all, showAtom(e.Val))
	}
	if e.Type != (api.SeqType{}) {
		all = append(all, showType(e.Type))
	}
	if e.Axis != 0 {
		all = append(all, axisNames[e.Axis-1])
	}
	if e.Op == api.Step || e.Test != (api.Test{}) {
		all = append(all, showTest(e.Test))
	}
	if e.Down {
		all = append(all, "down")
	}
	return all
}

// showAtom tells a value: 1, 1.5d, 1.d, "a" of a Str, ~"a" of an Untyped.
func showAtom(a api.Atom) string {
	switch a {
	case api.Atom{Kind: api.Int, N: a.N}:
		return strconv.Itoa(a.N)
	case api.Atom{Kind: api.Dec, N: a.N, Scale: a.Scale}:
		return strconv.Itoa(a.N) + "e-" + strconv.Itoa(a.Scale)
	case api.Atom{Kind: api.Str, S: a.S}:
		return strconv.Quote(a.S)
	case api.Atom{Kind: api.Untyped, S: a.S}:
		return "~" + strconv.Quote(a.S)
	}
	return fmt.Sprintf("%+v", a)
}

// showType tells a type: its kind, a name, how many.
func showType(t api.SeqType) string {
	name := itemNames[t.Item]
	if t.Name != "" {
		name += ":" + t.Name
	}
	return "<" + name + []string{"", "?", "+", "*"}[t.Occ] + ">"
}

// showTest tells a test.
func showTest(t api.Test) string {
	if t.Kind == api.Named {
		return t.Name
	}
	name := testNames[t.Kind]
	if t.Kind == api.ElemTest || t.Kind == api.AttrTest {
		return name + "(" + t.Name + ")"
	}
	return name + t.Name
}

// showModule tells a query.
func showModule(m api.Module) string {
	s := ""
	for _, g := range m.Globals {
		s += "$" + g.Name + showType(g.Type) + show(g.Body) + ";"
	}
	for _, f := range m.Funcs {
		s += f.Name
		for _, p := range f.Params {
			s += "$" + p.Name + showType(p.Type)
		}
		s += "!" + showType(f.Result) + show(f.Body) + ";"
	}
	return s + show(m.Body)
}

// sameExpr tells whether two trees are the same, field by field; nil and empty lists are one.
func sameExpr(a, b api.Expr) bool {
	return a.Op == b.Op && a.Name == b.Name && a.At == b.At && a.Val == b.Val && a.Type == b.Type && a.Axis == b.Axis && a.Test == b.Test && a.Down == b.Down && slices.EqualFunc(a.Kids, b.Kids, sameExpr)
}

// same tells whether two queries are the same.
func same(a, b api.Module) bool {
	return slices.EqualFunc(a.Globals, b.Globals, func(a, b api.Global) bool {
		return a.Name == b.Name && a.Type == b.Type && sameExpr(a.Body, b.Body)
	}) && slices.EqualFunc(a.Funcs, b.Funcs, func(a, b api.Func) bool {
		return a.Name == b.Name && slices.Equal(a.Params, b.Params) && a.Result == b.Result && sameExpr(a.Body, b.Body)
	}) && sameExpr(a.Body, b.Body)
}

// short is as much of a text as can be told.
func short(s string) string {
	const most = 300
	if len(s) > most {
		return s[:most] + " .."
	}
	return s
}

// taken is what Parse answers of a text that must be a query; what is printed of it is held to P11.2.
func taken(t *testing.T, s string) api.Module {
	t.Helper()
	m, e := parse.Parse(s)
	if e != api.OK {
		t.Errorf("Parse(%q): %v", short(s), e)
		return m
	}
	back(t, s, m)
	return m
}

// back holds Print and Expr to P11.2 of what Parse answered of a text. (What was read nests no deeper than 64, and is too long only where signs need blanks.)
func back(t *testing.T, s string, m api.Module) {
	t.Helper()
	text := parse.Print(m)
	if n, e := parse.Parse(text); e != api.OK && (e != api.ErrLong || len(text) <= 65536) || e == api.OK && !same(n, m) {
		t.Errorf("Print(%q): %q: %v, %s; not %s", short(s), short(text), e, short(showModule(n)), short(showModule(m)))
	}
	text = "(" + parse.Expr(m.Body) + ")"
	if n, e := parse.Parse(text); e != api.OK && e != api.ErrNest && (e != api.ErrLong || len(text) <= 65536) || e == api.OK && !same(n, api.Module{Body: m.Body}) {
		t.Errorf("Expr(%q): %q: %v, %s; not %s", short(s), short(text), e, short(showModule(n)), short(show(m.Body)))
	}
}

// hold holds what Parse answers of a text to this tree, as show tells it, and to no Globals and Funcs.
func hold(t *testing.T, s, want string) {
	t.Helper()
	if got := showModule(taken(t, s)); got != want {
		t.Errorf("Parse(%q): %s; not %s", short(s), short(got), short(want))
	}
}

// alike holds texts to one tree.
func alike(t *testing.T, s string, others ...string) {
	t.Helper()
	want := taken(t, s)
	for _, other := range others {
		if got := taken(t, other); !same(got, want) {
			t.Errorf("Parse(%q): %s; not as %q: %s", short(other), short(showModule(got)), short(s), short(showModule(want)))
		}
	}
}

// refuse holds Parse to this error, and to the zero Module beside it.
func refuse(t *testing.T, err api.Errno, texts ...string) {
	t.Helper()
	for _, s := range texts {
		if m, e := parse.Parse(s); e != err || !same(m, api.Module{}) {
			t.Errorf("Parse(%q): %v, %s; not %v", short(s), e, short(showModule(m)), err)
		}
	}
}

// in is the text in so many parentheses.
func in(count int, s string) string {
	return strings.Repeat("(", count) + s + strings.Repeat(")", count)
}
