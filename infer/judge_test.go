package infer_test

import (
	"math/bits"
	"slices"

	"espalier/api"
)

// shapes is a set of what an item may be; a kind is such a set.
type shapes uint

const (
	anInt shapes = 1 << iota
	aDec
	aStr
	aBool
	anUntyped
	aDoc
	anElemA
	anElemB
	anElem // of another name
	anAttrA
	anAttrB
	anAttr // of another name
	aText
	aComment
	noNode

	atomic   = anInt | aDec | aStr | aBool | anUntyped
	elems    = anElemA | anElemB | anElem
	attrs    = anAttrA | anAttrB | anAttr
	nodes    = aDoc | elems | attrs | aText | aComment
	anything = atomic | nodes | noNode
)

// rowOfKind is a kind of types, and what its items may be.
type rowOfKind struct {
	item  api.ItemKind
	name  string
	items shapes
}

// kinds are all of them, with the two names that they have here.
var kinds = []rowOfKind{
	{api.NoItem, "", 0},
	{api.IntItem, "", anInt},
	{api.DecItem, "", anInt | aDec},
	{api.StrItem, "", aStr},
	{api.BoolItem, "", aBool},
	{api.UntItem, "", anUntyped},
	{api.AtomItem, "", atomic},
	{api.DocItem, "", aDoc},
	{api.ElemItem, "", elems},
	{api.ElemItem, "a", anElemA},
	{api.ElemItem, "b", anElemB},
	{api.AttrItem, "", attrs},
	{api.AttrItem, "a", anAttrA},
	{api.AttrItem, "b", anAttrB},
	{api.TextItem, "", aText},
	{api.ComItem, "", aComment},
	{api.NodeItem, "", nodes},
	{api.AnyItem, "", anything},
}

// numbers is a set of counts: none, one, two, three, and four or more.
type numbers uint

const (
	none       numbers = 1
	alone      numbers = 2
	most               = 4
	everyCount numbers = 1<<(most+1) - 1
)

// countsOf are those of an Occ.
var countsOf = [api.Occs]numbers{api.One: alone, api.Opt: none | alone, api.Plus: everyCount &^ none, api.Star: everyCount}

// pairs is the set of what is made of a count of the one and a count of the other.
func pairs(a, b numbers, make func(m, n int) int) numbers {
	var ns numbers
	for m := range most + 1 {
		for n := range most + 1 {
			if a>>m&1 == 1 && b>>n&1 == 1 {
				ns |= 1 << min(make(m, n), most)
			}
		}
	}
	return ns
}

// meaning is a type as sets: how many items, and what each may be.
type meaning struct {
	counts numbers
	items  shapes
}

var nothing = meaning{none, 0}

// one is the meaning of one item.
func one(items shapes) meaning { return meaning{alone, items} }

// meant is what a type means.
func meant(t api.SeqType) meaning {
	for _, k := range kinds {
		if k.item == t.Item && k.name == t.Name {
			if k.items == 0 {
				return nothing
			}
			return meaning{countsOf[t.Occ], k.items}
		}
	}
	panic("a type of no kind of the tests")
}

// least is the type of the fewest shapes and the fewest counts that has all of those.
func least(m meaning) api.SeqType {
	if m.items == 0 {
		return empty
	}
	best, fewest := of(api.AnyItem, api.Star), bits.OnesCount(uint(anything))
	for _, k := range kinds {
		if n := bits.OnesCount(uint(k.items)); m.items&^k.items == 0 && n < fewest {
			best, fewest = api.SeqType{Item: k.item, Name: k.name, Occ: api.Star}, n
		}
	}
	for _, o := range []api.Occ{api.Plus, api.Opt, api.One} { // each behind those that have more
		if m.counts&^countsOf[o] == 0 {
			best.Occ = o
		}
	}
	return best
}

// judge says what types expressions have, from the chapter's words, by sets.
type judge struct {
	funcs []api.Func
	clash bool
}

// bind is a variable, and what it may be.
type bind struct {
	name string
	meaning
}

// judged is an expression's type, or that there is a clash in it.
func judged(funcs []api.Func, vars []api.Param, e api.Expr) (api.SeqType, bool) {
	var scope []bind
	for _, v := range vars {
		scope = append(scope, bind{v.Name, meant(v.Type)})
	}
	j := judge{funcs: funcs}
	ty := least(j.of(scope, e))
	if j.clash {
		return empty, false
	}
	return ty, true
}

// of is the meaning of an expression's type: never a set of items that is no kind's.
func (j *judge) of(scope []bind, e api.Expr) meaning {
	return meant(least(j.sets(scope, e)))
}

func (j *judge) all(scope []bind, es []api.Expr) []meaning {
	var ms []meaning
	for _, e := range es {
		ms = append(ms, j.of(scope, e))
	}
	return ms
}

// with is a scope with more in it.
func with(scope []bind, more ...bind) []bind { return append(slices.Clone(scope), more...) }

func (j *judge) sets(scope []bind, e api.Expr) meaning {
	switch e.Op {
	case api.Var:
		for i := len(scope) - 1; i >= 0; i-- {
			if scope[i].name == e.Name {
				return scope[i].meaning
			}
		}
		return meaning{everyCount, anything}
	case api.Let:
		return j.of(with(scope, bind{e.Name, j.of(scope, e.Kids[0])}), e.Kids[1])
	case api.For, api.Order, api.Some, api.Every:
		in := j.of(scope, e.Kids[0])
		inner := with(scope, bind{e.Name, one(in.items)})
		if e.At != "" {
			inner = with(inner, bind{e.At, one(anInt)})
		}
		back := j.all(inner, e.Kids[1:])
		return j.looped(e.Op, in, back[len(back)-1])
	case api.Switch:
		return j.chosen(scope, e)
	}
	return j.made(e, j.all(scope, e.Kids))
}

func (j *judge) looped(op api.Op, in, back meaning) meaning {
	if op == api.Some || op == api.Every {
		return one(aBool)
	}
	if in.items == 0 || back.items == 0 {
		return nothing
	}
	times := func(m, n int) int { return m * n }
	counts := in.counts
	if op == api.Order {
		counts |= none
	}
	return meaning{pairs(counts, back.counts, times), back.items}
}

func (j *judge) chosen(scope []bind, e api.Expr) meaning {
	var m meaning
	operand := j.of(scope, e.Kids[0])
	for i, c := range e.Kids[1:] {
		is := meant(c.Type)
		if i == len(e.Kids)-2 {
			is = operand
		}
		back := j.of(with(scope, bind{c.Name, is}), c.Kids[0])
		m.counts |= back.counts
		m.items |= back.items
	}
	return m
}

// values is what the values of items may be.
func values(m meaning) meaning {
	var items shapes
	for shape := anInt; shape <= noNode; shape <<= 1 {
		switch {
		case m.items&shape == 0:
		case shape&atomic != 0:
			items |= shape
		case shape == aComment:
			items |= aStr
		default:
			items |= anUntyped
		}
	}
	return meant(least(meaning{m.counts, items}))
}

// single is what comes of one value of each operand.
func single(items shapes, operands []meaning) meaning {
	m := one(items)
	for _, o := range operands {
		if o.items == 0 {
			return nothing
		}
		m.counts |= o.counts & none
	}
	return m
}

var fixedCalls = map[string]meaning{
	"count": one(anInt), "position": one(anInt), "last": one(anInt), "string-length": one(anInt), "compare": {none | alone, anInt},
	"index-of": {everyCount, anInt}, "string-to-codepoints": {everyCount, anInt},
	"empty": one(aBool), "exists": one(aBool), "not": one(aBool), "boolean": one(aBool), "true": one(aBool), "false": one(aBool),
	"contains": one(aBool), "starts-with": one(aBool), "ends-with": one(aBool), "deep-equal": one(aBool),
	"string": one(aStr), "concat": one(aStr), "substring": one(aStr), "substring-before": one(aStr), "substring-after": one(aStr), "string-join": one(aStr),
	"normalize-space": one(aStr), "name": one(aStr), "translate": one(aStr), "codepoints-to-string": one(aStr),
	"abs": {none | alone, anInt | aDec}, "floor": {none | alone, anInt | aDec}, "ceiling": {none | alone, anInt | aDec}, "round": {none | alone, anInt | aDec}, "avg": {none | alone, anInt | aDec},
	"max": {none | alone, atomic}, "min": {none | alone, atomic}, "root": {none | alone, nodes}, "doc": {none | alone, aDoc}, "error": nothing,
}

func (j *judge) call(name string, args []meaning) meaning {
	for _, f := range j.funcs {
		if f.Name == name && len(f.Params) == len(args) {
			return meant(f.Result)
		}
	}
	if m, ok := fixedCalls[name]; ok {
		return m
	}
	first := args[0]
	switch name {
	case "sum":
		if len(args) == 1 {
			return one(atomic)
		}
		return meaning{none | alone, atomic}
	case "data":
		return values(first)
	case "distinct-values":
		return meaning{everyCount, values(first).items}
	case "reverse", "subsequence", "remove":
		return meaning{everyCount, first.items}
	case "insert-before":
		return meaning{everyCount, first.items | args[2].items}
	case "exactly-one":
		return one(first.items)
	case "zero-or-one":
		return meaning{none | alone, first.items}
	case "one-or-more":
		return meaning{everyCount &^ none, first.items}
	}
	panic("a call of no function of the tests: " + name)
}

// made is the meaning of an expression that binds nothing, of what its Kids mean.
func (j *judge) made(e api.Expr, kids []meaning) meaning {
	switch {
	case api.Add <= e.Op && e.Op <= api.Neg:
		return j.reckoned(e.Op, kids)
	case api.VEq <= e.Op && e.Op <= api.VGe:
		j.compare(kids[0], kids[1])
		return single(aBool, kids)
	}
	switch e.Op {
	case api.Lit:
		return one([]shapes{api.Int: anInt, api.Dec: anInt | aDec, api.Str: aStr, api.Bool: aBool, api.Untyped: anUntyped}[e.Val.Kind])
	case api.Dot:
		return one(anything)
	case api.Seq:
		m := nothing
		for _, kid := range kids {
			m = meaning{pairs(m.counts, kid.counts, func(m, n int) int { return m + n }), m.items | kid.items}
		}
		return m
	case api.Range:
		return meaning{everyCount, anInt}
	case api.Is, api.Before, api.After:
		return single(aBool, kids)
	case api.If:
		return meaning{kids[1].counts | kids[2].counts, kids[1].items | kids[2].items}
	case api.Root:
		return one(nodes)
	case api.Path:
		j.clash = j.clash || kids[0].counts&none == 0 && kids[0].items&^atomic == 0
		return meaning{everyCount, kids[1].items}
	case api.Step:
		return steps(e.Axis, e.Test)
	case api.Filter:
		if kids[0].counts&^(none|alone) != 0 {
			return meaning{everyCount, kids[0].items}
		}
		return meaning{none | alone, kids[0].items}
	case api.Union, api.Inter, api.Except:
		return meaning{everyCount, nodes}
	case api.Cast, api.Treat, api.Convert:
		return meant(e.Type)
	case api.Call:
		return j.call(e.Name, kids)
	case api.MakeElem:
		return one(namedShape(e.Kids[0], anElemA, elems))
	case api.MakeAttr:
		return one(namedShape(e.Kids[0], anAttrA, attrs))
	case api.MakeText:
		return meaning{none | alone, aText}
	case api.MakeCom:
		return one(aComment)
	case api.MakeDoc:
		return one(aDoc)
	}
	return one(aBool)
}

func (j *judge) reckoned(op api.Op, kids []meaning) meaning {
	whole := op != api.Div
	for _, kid := range kids {
		v := values(kid)
		j.clash = j.clash || v.counts&none == 0 && (v.items == aStr || v.items == aBool)
		whole = whole && (op == api.IDiv || v.items == anInt)
	}
	if whole {
		return single(anInt, kids)
	}
	return single(anInt|aDec, kids)
}

// likes are sets of values that can be held against each other.
var likes = []shapes{anInt | aDec, aStr | anUntyped, aBool}

// compare looks for operands that have values, each of some set, that aren't both in one.
func (j *judge) compare(a, b meaning) {
	if (a.counts|b.counts)&none != 0 {
		return
	}
	within := func(m meaning, set shapes) bool { return values(m).items&^set == 0 }
	for _, x := range likes {
		for _, y := range likes {
			if x != y && within(a, x) && within(b, y) {
				j.clash = true
			}
		}
	}
}

// namedShape is the shape of an element or an attribute, that of the name a being the first, all being all.
func namedShape(name api.Expr, first, all shapes) shapes {
	if name.Op == api.Lit && name.Val.Kind == api.Str {
		switch name.Val.S {
		case "a":
			return first
		case "b":
			return first << 1
		}
	}
	return all
}

func steps(axis api.Axis, test api.Test) meaning {
	m := meaning{everyCount, 0}
	if axis == api.Self || axis == api.Parent {
		m.counts = none | alone
	}
	ownKind, first := elems, anElemA
	if axis == api.Attribute {
		ownKind, first = attrs, anAttrA
	}
	name := str(test.Name)
	m.items = []shapes{
		api.AnyNode: nodes, api.AnyElem: ownKind, api.Named: namedShape(name, first, ownKind), api.TextTest: aText, api.CommentTest: aComment,
		api.ElemTest: namedShape(name, anElemA, elems), api.AttrTest: namedShape(name, anAttrA, attrs), api.DocTest: aDoc,
	}[test.Kind]
	return m
}
