package types_test

import (
	"math/bits"

	"espalier/api"
)

// shapes is a set of what an item may be; a kind is such a set.
type shapes uint

const (
	anInt shapes = 1 << iota
	aDec
	aStr
	aBool
	anUntyped
	aDoc
	anElemA
	anElemB
	anElemC
	anAttrA
	anAttrB
	anAttrC
	aText
	aComment
	noNode

	atomic   = anInt | aDec | aStr | aBool | anUntyped
	anElem   = anElemA | anElemB | anElemC
	anAttr   = anAttrA | anAttrB | anAttrC
	anyNode  = aDoc | anElem | anAttr | aText | aComment
	anything = atomic | anyNode | noNode
)

// rowOfKind is a kind of types, and what its items may be.
type rowOfKind struct {
	item  api.ItemKind
	name  string
	items shapes
}

// kinds are all of them, with two of the three names that items have here.
func kinds() []rowOfKind {
	return []rowOfKind{
		{api.NoItem, "", 0},
		{api.IntItem, "", anInt},
		{api.DecItem, "", anInt | aDec},
		{api.StrItem, "", aStr},
		{api.BoolItem, "", aBool},
		{api.UntItem, "", anUntyped},
		{api.AtomItem, "", atomic},
		{api.DocItem, "", aDoc},
		{api.ElemItem, "", anElem},
		{api.ElemItem, "a", anElemA},
		{api.ElemItem, "b", anElemB},
		{api.AttrItem, "", anAttr},
		{api.AttrItem, "a", anAttrA},
		{api.AttrItem, "b", anAttrB},
		{api.TextItem, "", aText},
		{api.ComItem, "", aComment},
		{api.NodeItem, "", anyNode},
		{api.AnyItem, "", anything},
	}
}

// rowOfItem is an item, and what it is.
type rowOfItem struct {
	item api.Item
	is   shapes
}

// things are items of each shape, some of a shape twice.
func things() []rowOfItem {
	both := api.Item{Node: textNode, Atom: api.Atom{Kind: api.Int, N: 1}} // the number counts, for it isn't 0
	return []rowOfItem{
		{atomItem(api.Int), anInt},
		{atomItem(api.Dec), aDec},
		{atomItem(api.Str), aStr},
		{atomItem(api.Bool), aBool},
		{atomItem(api.Untyped), anUntyped},
		{api.Item{Atom: api.Atom{Kind: api.Bool}}, aBool},
		{api.Item{Atom: api.Atom{Kind: api.Str}}, aStr},
		{api.Item{Atom: api.Atom{Kind: api.Untyped}}, anUntyped},
		{nodeItem(docNode), aDoc},
		{nodeItem(elemA), anElemA},
		{nodeItem(elemB), anElemB},
		{nodeItem(elemC), anElemC},
		{nodeItem(attrA), anAttrA},
		{nodeItem(attrB), anAttrB},
		{nodeItem(attrC), anAttrC},
		{nodeItem(loneAttr), anAttrA},
		{nodeItem(textNode), aText},
		{nodeItem(comNode), aComment},
		{nodeItem(loneText), aText},
		{nodeItem(loneCom), aComment},
		{nodeItem(emptyDoc), aDoc},
		{both, aText},
		{nodeItem(size + 1), noNode},
		{nodeItem(-1), noNode},
		{nodeItem(-elemA), noNode},
		{api.Item{Node: size + 2, Atom: api.Atom{Kind: api.Int, N: 1}}, noNode},
	}
}

// numbers is a set of counts: bit n for the count n, the last for itself and all above it.
type numbers uint

const (
	lastCount = 9
	allCounts = numbers(1)<<(lastCount+1) - 1
)

// has is the set of one count.
func has(n int) numbers { return 1 << min(n, lastCount) }

// countsOfOcc are those of a type that has items.
func countsOfOcc(o api.Occ) numbers {
	switch o {
	case api.One:
		return has(1)
	case api.Opt:
		return has(0) | has(1)
	case api.Plus:
		return allCounts &^ has(0)
	}
	return allCounts
}

// all lists the counts of a set.
func (ns numbers) all() []int {
	var list []int
	for n := range lastCount + 1 {
		if ns&has(n) != 0 {
			list = append(list, n)
		}
	}
	return list
}

// pairs is the set of what is made of a count of the one and a count of the other.
func pairs(a, b numbers, make func(m, n int) int) numbers {
	var ns numbers
	for _, m := range a.all() {
		for _, n := range b.all() {
			ns |= has(make(m, n))
		}
	}
	return ns
}

// meaning is a type as sets: how many items, and what each may be.
type meaning struct {
	counts numbers
	items  shapes
}

// typed is a type, and what it means.
type typed struct {
	api.SeqType
	meaning
}

// all are the types of all kinds with every Occ.
func all() []typed {
	var ts []typed
	for _, k := range kinds() {
		for o := range api.Occ(api.Occs) {
			m := meaning{countsOfOcc(o), k.items}
			if k.item == api.NoItem {
				m.counts = has(0)
			}
			ts = append(ts, typed{named(k.item, k.name, o), m})
		}
	}
	return ts
}

// row is the SeqTypes alone.
func row(ts []typed) []api.SeqType {
	var list []api.SeqType
	for _, t := range ts {
		list = append(list, t.SeqType)
	}
	return list
}

// judgedSub tells whether one type's meaning lies in another's.
func judgedSub(a, b meaning) bool {
	return a.counts&^b.counts == 0 && (a.counts == has(0) || a.items&^b.items == 0)
}

// leastType is the type of the fewest shapes and the fewest counts that has all of those.
func leastType(m meaning) api.SeqType {
	if m.items == 0 {
		return of(api.NoItem, api.Star)
	}
	best, fewest := of(api.AnyItem, api.Star), bits.OnesCount(uint(anything))
	for _, k := range kinds() {
		if n := bits.OnesCount(uint(k.items)); m.items&^k.items == 0 && n < fewest {
			best, fewest = named(k.item, k.name, api.Star), n
		}
	}
	for _, o := range []api.Occ{api.Plus, api.Opt, api.One} { // each behind those that have more
		if m.counts&^countsOfOcc(o) == 0 {
			best.Occ = o
		}
	}
	return best
}

// judgedEither is the type of what is of one of them.
func judgedEither(ts ...typed) api.SeqType {
	var m meaning
	for _, t := range ts {
		m.counts |= t.counts
		m.items |= t.items
	}
	return leastType(m)
}

// judgedJoin is the type of what stands one behind the other.
func judgedJoin(ts ...typed) api.SeqType {
	m := meaning{counts: has(0)}
	for _, t := range ts {
		m.counts = pairs(m.counts, t.counts, func(m, n int) int { return m + n })
		m.items |= t.items
	}
	return leastType(m)
}

// judgedTimes is the type of one b for each item of a.
func judgedTimes(a, b typed) api.SeqType {
	if a.items == 0 {
		return leastType(meaning{})
	}
	return leastType(meaning{pairs(a.counts, b.counts, func(m, n int) int { return m * n }), b.items})
}
