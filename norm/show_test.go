package norm_test

import (
	"fmt"
	"strconv"
	"strings"

	"espalier/api"
	"espalier/parse"
)

// opWords are how the notation of the tests names what expressions are.
var opWords = map[api.Op]string{
	api.Dot: ".", api.Root: "root", api.Seq: "seq", api.Range: "range", api.Add: "add", api.Sub: "sub", api.Mul: "mul", api.Div: "div", api.IDiv: "idiv", api.Mod: "mod", api.Neg: "neg",
	api.VEq: "veq", api.VNe: "vne", api.VLt: "vlt", api.VLe: "vle", api.VGt: "vgt", api.VGe: "vge", api.GEq: "geq", api.GNe: "gne", api.GLt: "glt", api.GLe: "gle", api.GGt: "ggt", api.GGe: "gge",
	api.Is: "is", api.Before: "before", api.After: "after", api.And: "and", api.Or: "or", api.If: "if", api.For: "for", api.Let: "let", api.Order: "order", api.Some: "some", api.Every: "every",
	api.Path: "path", api.Filter: "filter", api.Union: "union", api.Inter: "intersect", api.Except: "except", api.Instance: "instance", api.Cast: "cast", api.Castable: "castable", api.Treat: "treat",
	api.Switch: "switch", api.Case: "case", api.Call: "call", api.MakeElem: "elem", api.MakeAttr: "attr", api.MakeText: "text", api.MakeCom: "comment", api.MakeDoc: "document", api.Convert: "convert",
	api.Flwor: "flwor", api.Where: "where", api.Direct: "direct", api.DirAttr: "dirattr", api.Ebv: "ebv",
}

var axisWords = [...]string{"", "child", "descendant", "attribute", "self", "descendant-or-self", "following-sibling", "parent", "ancestor", "preceding-sibling", "ancestor-or-self"}

// show is an expression in the notation of the tests: what it is, what its fields say, and its Kids. A field that has nothing to say there is told behind a mark of its own, so that two trees are written alike just if they are the same.
func show(e api.Expr) string {
	var w strings.Builder
	write(&w, e)
	return w.String()
}

func write(w *strings.Builder, e api.Expr) {
	head, said := headOf(e)
	w.WriteString(head)
	kids := e.Kids
	e.Kids = nil
	if !equal(e, said, false) {
		fmt.Fprintf(w, "!%+v", e)
	}
	if len(kids) == 0 && isLeaf(e.Op) {
		return
	}
	w.WriteString("(")
	for i, kid := range kids {
		if i > 0 {
			w.WriteString(", ")
		}
		write(w, kid)
	}
	w.WriteString(")")
}

func isLeaf(op api.Op) bool {
	return op == api.Lit || op == api.Var || op == api.Dot || op == api.Root || op == api.Step
}

// headOf is how an expression is told without its Kids, and as much of it as that says.
func headOf(e api.Expr) (head string, said api.Expr) {
	said = api.Expr{Op: e.Op}
	head = opWords[e.Op]
	if head == "" {
		head = "op" + strconv.Itoa(int(e.Op))
	}
	switch e.Op {
	case api.Lit:
		head, said.Val = atomHead(e.Val)
	case api.Var:
		head, said.Name = "$"+e.Name, e.Name
	case api.Step:
		head, said.Axis = "nowhere", e.Axis
		if e.Axis > 0 && e.Axis < api.Axes {
			head = axisWords[e.Axis]
		}
		test, t := testHead(e.Test)
		head, said.Test = head+"::"+test, t
	case api.For, api.Let, api.Order, api.Some, api.Every:
		head, said.Name, said.At, said.Down = head+" $"+e.Name, e.Name, e.At, e.Down
		if e.At != "" {
			head += " at $" + e.At
		}
		if e.Down {
			head += " down"
		}
	case api.Instance, api.Cast, api.Castable, api.Treat, api.Convert:
		head, said.Type = head+" "+typeText(e.Type), e.Type
	case api.Case:
		if e.Name != "" {
			head += " $" + e.Name + " as"
		}
		head, said.Name, said.Type = head+" "+typeText(e.Type), e.Name, e.Type
	case api.Call:
		head, said.Name = head+" "+e.Name, e.Name
	}
	return head, said
}

// typeText is a type as it stands in a query; what can't be told so stands behind a mark.
func typeText(t api.SeqType) string {
	s := parse.Type(t)
	named := t.Item == api.ElemItem || t.Item == api.AttrItem
	if t.Name != "" && !named || t.Item == api.NoItem && t.Occ != api.Star || t.Occ < 0 || t.Occ >= api.Occs {
		s += fmt.Sprintf("!%+v", t)
	}
	return s
}

func atomHead(a api.Atom) (string, api.Atom) {
	switch a.Kind {
	case api.Int:
		return strconv.Itoa(a.N), api.Atom{Kind: a.Kind, N: a.N}
	case api.Dec:
		return fmt.Sprintf("%de-%d", a.N, a.Scale), api.Atom{Kind: a.Kind, N: a.N, Scale: a.Scale}
	case api.Str:
		return strconv.Quote(a.S), api.Atom{Kind: a.Kind, S: a.S}
	case api.Bool:
		return strconv.FormatBool(a.B), api.Atom{Kind: a.Kind, B: a.B}
	case api.Untyped:
		return "raw " + strconv.Quote(a.S), api.Atom{Kind: a.Kind, S: a.S}
	}
	return "nothing", api.Atom{}
}

func testHead(t api.Test) (string, api.Test) {
	switch t.Kind {
	case api.AnyNode:
		return "node()", api.Test{}
	case api.AnyElem:
		return "*", api.Test{Kind: t.Kind}
	case api.Named:
		return t.Name, t
	case api.TextTest:
		return "text()", api.Test{Kind: t.Kind}
	case api.CommentTest:
		return "comment()", api.Test{Kind: t.Kind}
	case api.ElemTest:
		return "element(" + t.Name + ")", t
	case api.AttrTest:
		return "attribute(" + t.Name + ")", t
	case api.DocTest:
		return "document-node()", api.Test{Kind: t.Kind}
	}
	return "none", api.Test{}
}

// showModule is a query in the notation of the tests.
func showModule(m api.Module) string {
	var w strings.Builder
	for _, g := range m.Globals {
		fmt.Fprintf(&w, "variable %s as %s := %s; ", g.Name, typeText(g.Type), show(g.Body))
	}
	for _, f := range m.Funcs {
		fmt.Fprintf(&w, "function %s(", f.Name)
		for i, p := range f.Params {
			if i > 0 {
				w.WriteString(", ")
			}
			fmt.Fprintf(&w, "%s as %s", p.Name, typeText(p.Type))
		}
		fmt.Fprintf(&w, ") as %s {%s}; ", typeText(f.Result), show(f.Body))
	}
	return w.String() + show(m.Body)
}
