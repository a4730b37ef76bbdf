package infer

import (
	"espalier/api"
	"espalier/char"
	"espalier/types"
)

// simple is the type of an expression that binds nothing, its Kids being of these types.
func (w *walk) simple(e api.Expr, kids ...api.SeqType) api.SeqType {
	switch e.Op {
	case api.Lit:
		return one(literal(e.Val))
	case api.Dot:
		return one(api.AnyItem)
	case api.Seq:
		return types.Join(kids...)
	case api.Range:
		return api.SeqType{Item: api.IntItem, Occ: api.Star}
	case api.If:
		return types.Either(typeAt(kids, 1), typeAt(kids, 2))
	case api.Cast, api.Treat, api.Convert:
		return e.Type
	case api.Call:
		return w.call(e.Name, kids...)
	case api.MakeElem:
		return made(api.ElemItem, e.Kids)
	case api.MakeAttr:
		return made(api.AttrItem, e.Kids)
	case api.MakeText:
		return api.SeqType{Item: api.TextItem, Occ: api.Opt}
	case api.MakeCom:
		return one(api.ComItem)
	case api.MakeDoc:
		return one(api.DocItem)
	case api.Root, api.Path, api.Step, api.Filter, api.Union, api.Inter, api.Except:
		return w.walked(e, kids...)
	}
	return w.operator(e.Op, kids...)
}

// literal is the kind of a value.
func literal(a api.Atom) api.ItemKind {
	switch a.Kind {
	case api.Int:
		return api.IntItem
	case api.Dec:
		return api.DecItem
	case api.Str:
		return api.StrItem
	case api.Bool:
		return api.BoolItem
	case api.Untyped:
		return api.UntItem
	}
	return api.AtomItem
}

// made is the type of a node that is made, with its name, if that is there to be read.
func made(item api.ItemKind, kids []api.Expr) api.SeqType {
	t := one(item)
	if len(kids) > 0 && kids[0].Op == api.Lit && kids[0].Val.Kind == api.Str && char.Name(kids[0].Val.S) {
		t.Name = kids[0].Val.S
	}
	return t
}

// walked is the type of what is come to by a way through documents, or kept of it.
func (w *walk) walked(e api.Expr, kids ...api.SeqType) api.SeqType {
	switch e.Op {
	case api.Root:
		return one(api.NodeItem)
	case api.Path:
		from, to := typeAt(kids, 0), typeAt(kids, 1)
		if !mayBeEmpty(from) && liesIn(from.Item, api.AtomItem) {
			w.clash = true
		}
		return some(to, api.Star)
	case api.Step:
		return step(e.Axis, e.Test)
	case api.Filter:
		from := typeAt(kids, 0)
		if from.Occ == api.Plus || from.Occ == api.Star {
			return some(from, api.Star)
		}
		return some(from, api.Opt)
	}
	return api.SeqType{Item: api.NodeItem, Occ: api.Star}
}

// step is the type of the nodes that an axis comes to and a test takes.
func step(axis api.Axis, test api.Test) api.SeqType {
	t := api.SeqType{Occ: api.Star}
	if axis == api.Self || axis == api.Parent {
		t.Occ = api.Opt
	}
	t.Item = taken(axis, test.Kind)
	if test.Kind == api.Named || test.Kind == api.ElemTest || test.Kind == api.AttrTest {
		t.Name = test.Name
	}
	return t
}

// taken is the kind of the nodes that a test takes.
func taken(axis api.Axis, test api.TestKind) api.ItemKind {
	switch test {
	case api.AnyElem, api.Named:
		if axis == api.Attribute {
			return api.AttrItem
		}
		return api.ElemItem
	case api.TextTest:
		return api.TextItem
	case api.CommentTest:
		return api.ComItem
	case api.ElemTest:
		return api.ElemItem
	case api.AttrTest:
		return api.AttrItem
	case api.DocTest:
		return api.DocItem
	}
	return api.NodeItem
}
