package infer

import (
	"espalier/api"
	"espalier/types"
)

// nothing is the type of no items.
func nothing() api.SeqType { return api.SeqType{Item: api.NoItem, Occ: api.Star} }

// one is the type of one item of a kind.
func one(item api.ItemKind) api.SeqType { return api.SeqType{Item: item, Occ: api.One} }

// some is the type of so many items of a type's kind; there are none of NoItem, however many.
func some(t api.SeqType, occ api.Occ) api.SeqType {
	if t.Item == api.NoItem {
		return nothing()
	}
	t.Occ = occ
	return t
}

// typeAt is one of the types; where there is none it is that of no items, for no core lacks a Kid.
func typeAt(ts []api.SeqType, at int) api.SeqType {
	if at < 0 || at >= len(ts) {
		return nothing()
	}
	return ts[at]
}

// anyEmpty tells whether one of the types has no items at all.
func anyEmpty(ts ...api.SeqType) bool {
	for _, t := range ts {
		if t.Item == api.NoItem {
			return true
		}
	}
	return false
}

// mayBeEmpty tells whether one of the types may have no items.
func mayBeEmpty(ts ...api.SeqType) bool {
	for _, t := range ts {
		if anyEmpty(t) || t.Occ == api.Opt || t.Occ == api.Star {
			return true
		}
	}
	return false
}

// liesIn tells whether a kind lies in another one.
func liesIn(item, in api.ItemKind) bool {
	return types.Sub(one(item), one(in))
}

// atomized is the type of the values of a type's items.
func atomized(t api.SeqType) api.SeqType {
	switch {
	case t.Item == api.NoItem || liesIn(t.Item, api.AtomItem):
		return t
	case t.Item == api.ComItem:
		t.Item = api.StrItem
	case t.Item == api.NodeItem || t.Item == api.AnyItem:
		t.Item = api.AtomItem
	default:
		t.Item = api.UntItem
	}
	t.Name = ""
	return t
}

// perhapsOne is the type of what is reckoned of one value of each operand: none, if an operand has none.
func perhapsOne(item api.ItemKind, operands ...api.SeqType) api.SeqType {
	switch {
	case anyEmpty(operands...):
		return nothing()
	case mayBeEmpty(operands...):
		return api.SeqType{Item: item, Occ: api.Opt}
	}
	return one(item)
}
