package infer

import "espalier/api"

// operator is the type of what an operator makes of its operands.
func (w *walk) operator(op api.Op, operands ...api.SeqType) api.SeqType {
	switch {
	case api.Add <= op && op <= api.Neg:
		w.clash = w.clash || unreckoned(operands...)
		return perhapsOne(reckoned(op, operands...), operands...)
	case api.VEq <= op && op <= api.VGe:
		w.clash = w.clash || unlike(typeAt(operands, 0), typeAt(operands, 1))
		return perhapsOne(api.BoolItem, operands...)
	case api.Is <= op && op <= api.After:
		return perhapsOne(api.BoolItem, operands...)
	}
	return one(api.BoolItem)
}

// reckoned is the kind of the number that comes of operands.
func reckoned(op api.Op, operands ...api.SeqType) api.ItemKind {
	switch op {
	case api.IDiv:
		return api.IntItem
	case api.Div:
		return api.DecItem
	}
	for _, t := range operands {
		if atomized(t).Item != api.IntItem {
			return api.DecItem
		}
	}
	return api.IntItem
}

// unreckoned tells whether an operand has a value that no number is made of.
func unreckoned(operands ...api.SeqType) bool {
	for _, t := range operands {
		item := atomized(t).Item
		if !mayBeEmpty(t) && (item == api.StrItem || item == api.BoolItem) {
			return true
		}
	}
	return false
}

// family is what values can be held against.
type family int

// The families of values: of those of no family nothing is known yet.
const (
	noFamily family = iota
	numbers
	texts
	truths
)

// familyOf is the family of the values of a kind.
func familyOf(item api.ItemKind) family {
	switch item {
	case api.IntItem, api.DecItem:
		return numbers
	case api.StrItem, api.UntItem:
		return texts
	case api.BoolItem:
		return truths
	}
	return noFamily
}

// unlike tells whether both operands have values, and these can't be held against each other.
func unlike(a, b api.SeqType) bool {
	one, other := familyOf(atomized(a).Item), familyOf(atomized(b).Item)
	return !mayBeEmpty(a, b) && one != noFamily && other != noFamily && one != other
}
