package infer_test

import (
	"slices"
	"strings"

	"espalier/api"
	"espalier/atom"
	"espalier/axis"
	"espalier/cmp"
	"espalier/dec"
	"espalier/deep"
	"espalier/node"
	"espalier/types"
)

// gaveUp is why there is no answer.
type gaveUp struct{ why string }

func check(fine bool, why string) {
	if !fine {
		panic(gaveUp{why})
	}
}

func noError(err api.Errno) { check(err == api.OK, err.Error()) }

// runner says what cores answer, as far as their types hang on it: what is made has no content.
type runner struct {
	s     *node.Store
	funcs []api.Func
	steps int
}

// place is where an expression is looked at: the variables, the last of a name counting, and the focus, if there is one.
type place struct {
	vars     []value
	item     []api.Item
	at, size int
}

type value struct {
	name  string
	items []api.Item
}

func (p place) with(more ...value) place {
	p.vars = append(slices.Clone(p.vars), more...)
	return p
}

func (p place) focused(x api.Item, at, size int) place {
	p.item, p.at, p.size = []api.Item{x}, at, size
	return p
}

// answerOf is what an expression answers, or why there is nothing.
func answerOf(s *node.Store, funcs []api.Func, p place, e api.Expr) (items []api.Item, why string) {
	defer func() {
		if r := recover(); r != nil {
			g, ok := r.(gaveUp)
			if !ok {
				panic(r)
			}
			items, why = nil, g.why
		}
	}()
	r := runner{s: s, funcs: funcs}
	return r.run(p, e), ""
}

func (r *runner) values(items []api.Item) []api.Atom {
	as, err := deep.Values(r.s, items...)
	noError(err)
	return as
}

// value is the one value, or none.
func (r *runner) value(items []api.Item) []api.Atom {
	as := r.values(items)
	check(len(as) < 2, "several values")
	return as
}

func (r *runner) truth(items []api.Item) bool {
	first := len(items) > 0 && items[0].Node > 0
	if first {
		return true
	}
	b, err := cmp.Truth(false, r.values(items)...)
	noError(err)
	return b
}

func atoms(as ...api.Atom) []api.Item {
	var items []api.Item
	for _, a := range as {
		items = append(items, api.Item{Atom: a})
	}
	return items
}

func wholes(ns ...int) []api.Item {
	var items []api.Item
	for _, n := range ns {
		items = append(items, api.Item{Atom: atom.Of(n)})
	}
	return items
}

func truths(b bool) []api.Item { return atoms(atom.Truth(b)) }

func texts(s string) []api.Item { return atoms(atom.Text(s)) }

func nodesOf(ns ...int) []api.Item {
	var items []api.Item
	for _, n := range ns {
		items = append(items, api.Item{Node: n})
	}
	return items
}

// numbersOf are the numbers of what must be nodes.
func numbersOf(items []api.Item) []int {
	var ns []int
	for _, x := range items {
		check(x.Node > 0, "no node")
		ns = append(ns, x.Node)
	}
	return ns
}

func (r *runner) run(p place, e api.Expr) []api.Item {
	r.steps++
	check(r.steps < 3000, "too many steps")
	items := r.step(p, e)
	check(len(items) < 200, "too many items")
	return items
}

func (r *runner) step(p place, e api.Expr) []api.Item {
	switch e.Op {
	case api.Lit:
		return atoms(e.Val)
	case api.Var:
		for _, v := range slices.Backward(p.vars) {
			if v.name == e.Name {
				return v.items
			}
		}
		check(false, "no variable")
	case api.Dot:
		check(len(p.item) == 1, "no focus")
		return p.item
	case api.Root, api.Step:
		check(len(p.item) == 1 && p.item[0].Node > 0, "no node in the focus")
		if e.Op == api.Root {
			return nodesOf(r.s.Root(p.item[0].Node))
		}
		return nodesOf(axis.Step(r.s, p.item[0].Node, e.Axis, e.Test)...)
	case api.And, api.Or:
		b := r.truth(r.run(p, e.Kids[0]))
		if b == (e.Op == api.And) {
			b = r.truth(r.run(p, e.Kids[1]))
		}
		return truths(b)
	case api.If:
		if r.truth(r.run(p, e.Kids[0])) {
			return r.run(p, e.Kids[1])
		}
		return r.run(p, e.Kids[2])
	case api.Let:
		return r.run(p.with(value{e.Name, r.run(p, e.Kids[0])}), e.Kids[1])
	case api.For, api.Some, api.Every, api.Order:
		return r.loop(p, e)
	case api.Path:
		return r.path(p, e)
	case api.Filter:
		return r.filter(p, e)
	case api.Switch:
		return r.choose(p, e)
	}
	var args [][]api.Item
	for _, kid := range e.Kids {
		args = append(args, r.run(p, kid))
	}
	if e.Op == api.Call {
		return r.call(p, e.Name, args)
	}
	return r.apply(e, args)
}

func (r *runner) loop(p place, e api.Expr) []api.Item {
	in := r.run(p, e.Kids[0])
	var items []api.Item
	var kept []place
	var keys [][]api.Atom
	for i, x := range in {
		q := p.with(value{e.Name, []api.Item{x}}, value{e.At, wholes(i + 1)})
		switch e.Op {
		case api.For:
			items = append(items, r.run(q, e.Kids[1])...)
		case api.Order:
			if r.truth(r.run(q, e.Kids[1])) {
				keys, kept = append(keys, r.value(r.run(q, e.Kids[2]))), append(kept, q)
			}
		default:
			if b := r.truth(r.run(q, e.Kids[1])); b == (e.Op == api.Some) {
				return truths(b)
			}
		}
	}
	switch e.Op {
	case api.For:
		return items
	case api.Order:
		// In which order they come, no type tells.
		for _, q := range kept {
			items = append(items, r.run(q, e.Kids[3])...)
		}
		return items
	}
	return truths(e.Op == api.Every)
}

func (r *runner) path(p place, e api.Expr) []api.Item {
	from := r.run(p, e.Kids[0])
	numbersOf(from)
	var items []api.Item
	for i, x := range from {
		items = append(items, r.run(p.focused(x, i+1, len(from)), e.Kids[1])...)
	}
	if slices.ContainsFunc(items, func(x api.Item) bool { return x.Node > 0 }) {
		return nodesOf(axis.Order(numbersOf(items)...)...)
	}
	return items
}

func (r *runner) filter(p place, e api.Expr) []api.Item {
	from := r.run(p, e.Kids[0])
	var items []api.Item
	for i, x := range from {
		is := r.run(p.focused(x, i+1, len(from)), e.Kids[1])
		keep := false
		if len(is) == 1 && is[0].Node == 0 && atom.Numeric(is[0].Atom) {
			keep = cmp.Equal(is[0].Atom, atom.Of(i+1))
		} else {
			keep = r.truth(is)
		}
		if keep {
			items = append(items, x)
		}
	}
	return items
}

func (r *runner) choose(p place, e api.Expr) []api.Item {
	items := r.run(p, e.Kids[0])
	for i, c := range e.Kids[1:] {
		if i == len(e.Kids)-2 || types.Match(r.s, c.Type, items...) {
			return r.run(p.with(value{c.Name, items}), c.Kids[0])
		}
	}
	return nil
}

// whole is the number of an Int, or of an Untyped that is one.
func whole(a api.Atom) int {
	if a.Kind == api.Untyped {
		var err api.Errno
		a, err = atom.Cast(a, api.Int)
		noError(err)
	}
	check(a.Kind == api.Int, "no whole number")
	return a.N
}

// numeric is a number, as it is or as an Untyped says it.
func numeric(a api.Atom) api.Atom {
	if a.Kind == api.Untyped {
		var err api.Errno
		a, err = atom.Cast(a, api.Dec)
		noError(err)
	}
	check(atom.Numeric(a), "no number")
	return a
}

var reckonings = map[api.Op]func(a, b dec.Num) (dec.Num, api.Errno){api.Add: dec.Add, api.Sub: dec.Sub, api.Mul: dec.Mul, api.Div: dec.Div, api.IDiv: dec.IDiv, api.Mod: dec.Mod}

func reckon(op api.Op, a, b api.Atom) api.Atom {
	a, b = numeric(a), numeric(b)
	n, err := reckonings[op](atom.Num(a), atom.Num(b))
	noError(err)
	if op == api.IDiv || op != api.Div && a.Kind == api.Int && b.Kind == api.Int {
		return atom.Of(n.N)
	}
	return atom.Number(n)
}

// cast is an operand's one value, as one of the type's kind.
func (r *runner) cast(ty api.SeqType, items []api.Item) []api.Item {
	as := r.value(items)
	if len(as) == 0 {
		check(ty.Occ == api.Opt, "nothing to cast")
		return nil
	}
	a, err := atom.Cast(as[0], api.AtomKind(ty.Item))
	noError(err)
	return atoms(a)
}

func (r *runner) castable(ty api.SeqType, items []api.Item) bool {
	if as := r.values(items); len(as) == 1 {
		return atom.Castable(as[0], api.AtomKind(ty.Item))
	}
	return len(items) == 0 && ty.Occ == api.Opt
}

func (r *runner) convert(ty api.SeqType, items []api.Item) []api.Item {
	if ty.Item != api.NoItem && ty.Item <= api.AtomItem {
		var as []api.Atom
		for _, a := range r.values(items) {
			if a.Kind == api.Untyped && ty.Item < api.UntItem {
				var err api.Errno
				a, err = atom.Cast(a, api.AtomKind(ty.Item))
				noError(err)
			}
			as = append(as, a)
		}
		items = atoms(as...)
	}
	check(types.Match(r.s, ty, items...), "of another type")
	return items
}

func (r *runner) apply(e api.Expr, args [][]api.Item) []api.Item {
	switch {
	case api.Add <= e.Op && e.Op <= api.VGe:
		return r.reckoned(e.Op, args)
	case api.GEq <= e.Op && e.Op <= api.GGe:
		b, err := cmp.General(e.Op, r.values(args[0]), r.values(args[1]))
		noError(err)
		return truths(b)
	case api.MakeElem <= e.Op && e.Op <= api.MakeDoc:
		return r.make(e.Op, args)
	}
	switch e.Op {
	case api.Seq:
		return slices.Concat(args...)
	case api.Range:
		var items []api.Item
		a, b := r.value(args[0]), r.value(args[1])
		if len(a) == 1 && len(b) == 1 {
			for n := whole(a[0]); n <= whole(b[0]); n++ {
				check(len(items) < 200, "too many items")
				items = append(items, wholes(n)...)
			}
		}
		return items
	case api.Is, api.Before, api.After:
		a, b := numbersOf(args[0]), numbersOf(args[1])
		check(len(a) < 2 && len(b) < 2, "several nodes")
		if len(a)*len(b) == 0 {
			return nil
		}
		return truths(e.Op == api.Is && a[0] == b[0] || e.Op == api.Before && a[0] < b[0] || e.Op == api.After && a[0] > b[0])
	case api.Union:
		return nodesOf(axis.Union(numbersOf(args[0]), numbersOf(args[1]))...)
	case api.Inter:
		return nodesOf(axis.Inter(numbersOf(args[0]), numbersOf(args[1]))...)
	case api.Except:
		return nodesOf(axis.Except(numbersOf(args[0]), numbersOf(args[1]))...)
	case api.Instance:
		return truths(types.Match(r.s, e.Type, args[0]...))
	case api.Treat:
		check(types.Match(r.s, e.Type, args[0]...), "of another type")
		return args[0]
	case api.Cast:
		return r.cast(e.Type, args[0])
	case api.Castable:
		return truths(r.castable(e.Type, args[0]))
	case api.Convert:
		return r.convert(e.Type, args[0])
	}
	panic("an expression of no kind of the tests")
}

func (r *runner) reckoned(op api.Op, args [][]api.Item) []api.Item {
	operands := []api.Atom{}
	if op == api.Neg {
		operands, op = append(operands, atom.Of(0)), api.Sub
	}
	empty := false
	for _, arg := range args {
		as := r.value(arg)
		empty = empty || len(as) == 0
		operands = append(operands, as...)
	}
	if empty {
		return nil
	}
	if op <= api.Neg {
		return atoms(reckon(op, operands[0], operands[1]))
	}
	b, err := cmp.Value(op, operands[0], operands[1])
	noError(err)
	return truths(b)
}

func (r *runner) make(op api.Op, args [][]api.Item) []api.Item {
	t := api.Tree{Kind: []api.NodeKind{api.Elem, api.Attr, api.Text, api.Comment, api.Doc}[op-api.MakeElem]}
	switch op {
	case api.MakeElem, api.MakeAttr:
		name := r.value(args[0])
		check(len(name) == 1 && (name[0].Kind == api.Str || name[0].Kind == api.Untyped), "no name")
		t.Name = name[0].S
	case api.MakeText:
		t.Value = deep.Join(" ", r.values(args[0])...)
		if t.Value == "" {
			return nil
		}
	}
	n, err := r.s.Build(t)
	noError(err)
	return nodesOf(n)
}

func (r *runner) text(items []api.Item) string {
	as := r.value(items)
	if len(as) == 0 {
		return ""
	}
	check(as[0].Kind == api.Str || as[0].Kind == api.Untyped, "no text")
	return as[0].S
}

func (r *runner) call(p place, name string, args [][]api.Item) []api.Item {
	for _, f := range r.funcs {
		if f.Name == name && len(f.Params) == len(args) {
			var q place
			for i, v := range f.Params {
				q = q.with(value{v.Name, args[i]})
			}
			return r.run(q, f.Body)
		}
	}
	switch name {
	case "position", "last":
		check(len(p.item) == 1, "no focus")
		return wholes(map[string]int{"position": p.at, "last": p.size}[name])
	case "true", "false":
		return truths(name == "true")
	case "concat", "string-join":
		return texts(strings.Repeat("a", len(args)))
	case "substring", "contains", "starts-with", "ends-with", "substring-before", "substring-after", "translate", "normalize-space", "string-length", "string-to-codepoints":
		return r.ofTexts(name, args)
	case "error", "doc":
		check(false, name)
	}
	if items, ok := r.ofNumbers(name, args); ok {
		return items
	}
	return r.ofItems(name, args)
}

// ofTexts is a call of texts: one that cuts them answers the first.
func (r *runner) ofTexts(name string, args [][]api.Item) []api.Item {
	s := r.text(args[0])
	switch name {
	case "contains", "starts-with", "ends-with":
		return truths(strings.Contains(s, r.text(args[1])))
	case "string-length":
		return wholes(len(s))
	case "string-to-codepoints":
		var items []api.Item
		for _, c := range s {
			items = append(items, wholes(int(c))...)
		}
		return items
	}
	return texts(s)
}

func (r *runner) ofNumbers(name string, args [][]api.Item) ([]api.Item, bool) {
	switch name {
	case "sum", "avg", "max", "min":
		as := r.values(args[0])
		switch {
		case len(as) == 0 && name == "sum" && len(args) == 2:
			return atoms(r.value(args[1])...), true
		case len(as) == 0 && name == "sum":
			return wholes(0), true
		case len(as) == 0:
			return nil, true
		case name == "max" || name == "min":
			return atoms(r.extreme(name == "max", as)), true
		}
		sum := numeric(as[0])
		for _, a := range as[1:] {
			sum = reckon(api.Add, sum, a)
		}
		if name == "avg" {
			sum = reckon(api.Div, sum, atom.Of(len(as)))
		}
		return atoms(sum), true
	case "abs", "floor", "ceiling", "round":
		as := r.value(args[0])
		if len(as) == 1 {
			as[0] = numeric(as[0])
		}
		return atoms(as...), true
	}
	return nil, false
}

// extreme is the greatest or the least value, an Untyped as the number that it says.
func (r *runner) extreme(greatest bool, as []api.Atom) api.Atom {
	var best api.Atom
	for i, a := range as {
		if a.Kind == api.Untyped {
			a = numeric(a)
		}
		if i == 0 {
			best = a
			continue
		}
		o, err := cmp.Order(a, best)
		noError(err)
		if o > 0 == greatest {
			best = a
		}
	}
	return best
}

func (r *runner) ofItems(name string, args [][]api.Item) []api.Item {
	a := args[0]
	switch name {
	case "count":
		return wholes(len(a))
	case "empty", "exists":
		return truths(len(a) == 0 == (name == "empty"))
	case "not", "boolean":
		return truths(r.truth(a) == (name == "boolean"))
	case "deep-equal":
		return truths(deep.Items(r.s, a, args[1]))
	case "data":
		return atoms(r.values(a)...)
	case "distinct-values":
		var kept []api.Atom
		for _, x := range r.values(a) {
			if !slices.ContainsFunc(kept, func(y api.Atom) bool { return cmp.Equal(x, y) }) {
				kept = append(kept, x)
			}
		}
		return atoms(kept...)
	case "index-of":
		which := r.value(args[1])
		check(len(which) == 1, "nothing to look for")
		var items []api.Item
		for i, x := range r.values(a) {
			if cmp.Equal(x, which[0]) {
				items = append(items, wholes(i+1)...)
			}
		}
		return items
	case "compare":
		if len(r.value(a)) == 0 || len(r.value(args[1])) == 0 {
			return nil
		}
		return wholes(strings.Compare(r.text(a), r.text(args[1])))
	case "codepoints-to-string":
		return texts(strings.Repeat("b", len(a)))
	case "string":
		check(len(a) < 2, "several items")
		return texts(deep.Join("", r.values(a)...))
	case "name", "root":
		check(len(numbersOf(a)) < 2, "several nodes")
		switch {
		case name == "name":
			return texts("a")
		case len(a) == 1:
			return nodesOf(r.s.Root(a[0].Node))
		}
		return nil
	}
	return cut(name, args)
}

// cut is a call that answers items that it was handed.
func cut(name string, args [][]api.Item) []api.Item {
	a := args[0]
	switch name {
	case "reverse":
		b := slices.Clone(a)
		slices.Reverse(b)
		return b
	case "remove", "subsequence":
		return slices.Clone(a[min(1, len(a)):])
	case "insert-before":
		return slices.Concat(args[2], a)
	case "exactly-one":
		check(len(a) == 1, name)
	case "zero-or-one":
		check(len(a) < 2, name)
	case "one-or-more":
		check(len(a) > 0, name)
	default:
		panic("a call of no function of the tests: " + name)
	}
	return a
}
