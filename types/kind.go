package types

import "espalier/api"

// kind is what each item of a type is; the zero kind is NoItem's.
type kind struct {
	item api.ItemKind
	name string
}

func kindOf(t api.SeqType) kind {
	return kind{t.Item, t.Name}
}

// anything is the kind in which all others lie.
const anything = api.AnyItem

// leastOfAtom is, at each kind of atomic value, the least kind that such a value is of.
var leastOfAtom = [api.Atoms]api.ItemKind{
	api.Int:     api.IntItem,
	api.Dec:     api.DecItem,
	api.Str:     api.StrItem,
	api.Bool:    api.BoolItem,
	api.Untyped: api.UntItem,
}

// leastOfNode is, at each kind of node, the least kind that such a node is of; at 0 that of a number that is no node's.
var leastOfNode = [api.Nodes]api.ItemKind{
	0:           anything,
	api.Doc:     api.DocItem,
	api.Elem:    api.ElemItem,
	api.Attr:    api.AttrItem,
	api.Text:    api.TextItem,
	api.Comment: api.ComItem,
}

// leastAbove is, at each kind without a name but NoItem and the widest, the least other kind in which it lies.
var leastAbove = [api.ItemKinds]api.ItemKind{
	api.IntItem:  api.DecItem,
	api.DecItem:  api.AtomItem,
	api.StrItem:  api.AtomItem,
	api.BoolItem: api.AtomItem,
	api.UntItem:  api.AtomItem,
	api.AtomItem: anything,
	api.DocItem:  api.NodeItem,
	api.ElemItem: api.NodeItem,
	api.AttrItem: api.NodeItem,
	api.TextItem: api.NodeItem,
	api.ComItem:  api.NodeItem,
	api.NodeItem: anything,
}

// wider is the least other kind in which a kind lies.
func (k kind) wider() kind {
	switch {
	case k.name != "":
		return kind{item: k.item}
	case k.item <= api.NoItem || k.item >= anything:
		return kind{item: anything} // of a type that isn't right nothing is promised, but that its walk to the widest kind ends
	}
	return kind{item: leastAbove[k.item]}
}

// liesIn tells whether each item of a kind is of the other one too.
func (k kind) liesIn(other kind) bool {
	if k.item == api.NoItem {
		return true
	}
	widest := kind{item: anything}
	for k != other && k != widest {
		k = k.wider()
	}
	return k == other
}

// with is the least kind in which both kinds lie.
func (k kind) with(other kind) kind {
	if k.item == api.NoItem {
		return other
	}
	for !other.liesIn(k) {
		k = k.wider()
	}
	return k
}
