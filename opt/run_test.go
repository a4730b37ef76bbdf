package opt_test

import (
	"slices"
	"sort"

	"espalier/api"
	"espalier/atom"
	"espalier/axis"
	"espalier/cmp"
	"espalier/deep"
	"espalier/node"
	"espalier/types"
)

// runner says what cores mean, by chapter 20, but that what is made has the text of its content alone, and that not each function is there.
type runner struct {
	s     *node.Store
	funcs []api.Func
	steps int
}

// place is where an expression is looked at: the variables, the last of a name counting, the focus, if there is one, and how deep calls are.
type place struct {
	vars     []value
	item     []api.Item
	at, size int
	deep     int
}

type value struct {
	name  string
	items []api.Item
}

func (p place) with(more ...value) place {
	p.vars = append(slices.Clone(p.vars), more...)
	return p
}

func (p place) focused(x api.Item, at, size int) place {
	p.item, p.at, p.size = []api.Item{x}, at, size
	return p
}

// check gives up with an error, if something isn't so.
func check(fine bool, err api.Errno) {
	if !fine {
		panic(err)
	}
}

func noError(err api.Errno) { check(err == api.OK, err) }

// meaningOf is what an expression means.
func meaningOf(s *node.Store, funcs []api.Func, p place, e api.Expr) (items []api.Item, err api.Errno) {
	defer func() {
		if r := recover(); r != nil {
			items, err = nil, r.(api.Errno)
		}
	}()
	r := runner{s: s, funcs: funcs}
	return r.run(p, e), api.OK
}

// isLimit tells whether an error is one of a limit.
func isLimit(err api.Errno) bool {
	return err == api.ErrFuel || err == api.ErrItems || err == api.ErrNodes || err == api.ErrDepth
}

func (r *runner) values(items []api.Item) []api.Atom {
	as, err := deep.Values(r.s, items...)
	noError(err)
	return as
}

// value is the one value, or none.
func (r *runner) value(items []api.Item) []api.Atom {
	as := r.values(items)
	check(len(as) < 2, api.ErrType)
	return as
}

func (r *runner) truth(items []api.Item) bool {
	first := len(items) > 0 && items[0].Node > 0
	if first {
		return true
	}
	b, err := cmp.Truth(false, r.values(items)...)
	noError(err)
	return b
}

func atoms(as ...api.Atom) []api.Item {
	var items []api.Item
	for _, a := range as {
		items = append(items, api.Item{Atom: a})
	}
	return items
}

func nodesOf(ns ...int) []api.Item {
	var items []api.Item
	for _, n := range ns {
		items = append(items, api.Item{Node: n})
	}
	return items
}

// numbersOf are the numbers of what must be nodes.
func numbersOf(items []api.Item, err api.Errno) []int {
	var ns []int
	for _, x := range items {
		check(x.Node > 0, err)
		ns = append(ns, x.Node)
	}
	return ns
}

func (r *runner) run(p place, e api.Expr) []api.Item {
	r.steps++
	check(r.steps < 3000, api.ErrFuel)
	items := r.step(p, e)
	check(len(items) < 200, api.ErrItems)
	return items
}

func (r *runner) step(p place, e api.Expr) []api.Item {
	switch e.Op {
	case api.Lit:
		return atoms(e.Val)
	case api.Var:
		for _, v := range slices.Backward(p.vars) {
			if v.name == e.Name {
				return v.items
			}
		}
		check(false, api.ErrName)
	case api.Dot:
		check(len(p.item) == 1, api.ErrFocus)
		return p.item
	case api.Root, api.Step:
		check(len(p.item) == 1, api.ErrFocus)
		n := numbersOf(p.item, api.ErrStep)[0]
		if e.Op == api.Root {
			return nodesOf(r.s.Root(n))
		}
		return nodesOf(axis.Step(r.s, n, e.Axis, e.Test)...)
	case api.And, api.Or:
		b := r.truth(r.run(p, e.Kids[0]))
		if b == (e.Op == api.And) {
			b = r.truth(r.run(p, e.Kids[1]))
		}
		return atoms(truth(b))
	case api.If:
		if r.truth(r.run(p, e.Kids[0])) {
			return r.run(p, e.Kids[1])
		}
		return r.run(p, e.Kids[2])
	case api.Let:
		return r.run(p.with(value{e.Name, r.run(p, e.Kids[0])}), e.Kids[1])
	case api.For, api.Some, api.Every:
		return r.loop(p, e)
	case api.Order:
		return r.ordered(p, e)
	case api.Path:
		return r.path(p, e)
	case api.Filter:
		return r.filter(p, e)
	case api.Switch:
		return r.choose(p, e)
	case api.Call:
		return r.call(p, e)
	}
	return r.apply(e, r.all(p, e.Kids))
}

// all are the meanings of expressions, in order.
func (r *runner) all(p place, es []api.Expr) [][]api.Item {
	var args [][]api.Item
	for _, e := range es {
		args = append(args, r.run(p, e))
	}
	return args
}

// places are those at which a loop looks at what stands in it.
func (r *runner) places(p place, e api.Expr) []place {
	var all []place
	for i, x := range r.run(p, e.Kids[0]) {
		all = append(all, p.with(value{e.At, atoms(whole(i + 1))}, value{e.Name, []api.Item{x}}))
	}
	return all
}

func (r *runner) loop(p place, e api.Expr) []api.Item {
	var items []api.Item
	for _, q := range r.places(p, e) {
		got := r.run(q, e.Kids[1])
		if e.Op == api.For {
			items = append(items, got...)
		} else if b := r.truth(got); b == (e.Op == api.Some) {
			return atoms(truth(b))
		}
	}
	if e.Op == api.For {
		return items
	}
	return atoms(truth(e.Op == api.Every))
}

// keyed is a place at which an Order is looked at, and its key there.
type keyed struct {
	place
	key []api.Atom
}

func (r *runner) ordered(p place, e api.Expr) []api.Item {
	var kept []keyed
	var first []api.Atom
	for _, q := range r.places(p, e) {
		if !r.truth(r.run(q, e.Kids[1])) {
			continue
		}
		key := r.value(r.run(q, e.Kids[2]))
		if len(key) > 0 && key[0].Kind == api.Untyped {
			key = []api.Atom{text(key[0].S)}
		}
		kept = append(kept, keyed{q, key})
	}
	for _, k := range kept {
		if len(first) == 0 {
			first = k.key
		} else if len(k.key) > 0 {
			_, err := cmp.Order(first[0], k.key[0])
			noError(err)
		}
	}
	sort.SliceStable(kept, func(i, j int) bool {
		a, b := kept[i].key, kept[j].key
		if e.Down {
			a, b = b, a
		}
		if len(a) == 0 || len(b) == 0 {
			return len(a) < len(b)
		}
		order, _ := cmp.Order(a[0], b[0])
		return order < 0
	})
	var items []api.Item
	for _, k := range kept {
		items = append(items, r.run(k.place, e.Kids[3])...)
	}
	return items
}

func (r *runner) path(p place, e api.Expr) []api.Item {
	from := r.run(p, e.Kids[0])
	numbersOf(from, api.ErrStep)
	var items []api.Item
	for i, x := range from {
		items = append(items, r.run(p.focused(x, i+1, len(from)), e.Kids[1])...)
	}
	if slices.ContainsFunc(items, func(x api.Item) bool { return x.Node > 0 }) {
		return nodesOf(axis.Order(numbersOf(items, api.ErrMixed)...)...)
	}
	return items
}

func (r *runner) filter(p place, e api.Expr) []api.Item {
	from := r.run(p, e.Kids[0])
	var items []api.Item
	for i, x := range from {
		is := r.run(p.focused(x, i+1, len(from)), e.Kids[1])
		keep := false
		if len(is) == 1 && is[0].Node == 0 && atom.Numeric(is[0].Atom) {
			keep = cmp.Equal(is[0].Atom, whole(i+1))
		} else {
			keep = r.truth(is)
		}
		if keep {
			items = append(items, x)
		}
	}
	return items
}

func (r *runner) choose(p place, e api.Expr) []api.Item {
	items := r.run(p, e.Kids[0])
	for i, c := range e.Kids[1:] {
		if i == len(e.Kids)-2 || types.Match(r.s, c.Type, items...) {
			return r.run(p.with(value{c.Name, items}), c.Kids[0])
		}
	}
	return nil
}

// integer is a whole number, as Range asks for it.
func integer(a api.Atom) int {
	if a.Kind == api.Untyped {
		var err api.Errno
		a, err = atom.Cast(a, api.Int)
		noError(err)
	}
	check(a.Kind == api.Int, api.ErrType)
	return a.N
}

func (r *runner) apply(e api.Expr, args [][]api.Item) []api.Item {
	switch {
	case api.Add <= e.Op && e.Op <= api.VGe:
		return r.pair(e.Op, args)
	case api.GEq <= e.Op && e.Op <= api.GGe:
		b, err := cmp.General(e.Op, r.values(args[0]), r.values(args[1]))
		noError(err)
		return atoms(truth(b))
	case api.Is <= e.Op && e.Op <= api.After || api.Union <= e.Op && e.Op <= api.Except:
		return r.nodal(e.Op, args[0], args[1])
	case api.MakeElem <= e.Op && e.Op <= api.MakeDoc:
		return r.make(e.Op, args)
	}
	switch e.Op {
	case api.Seq:
		return slices.Concat(args...)
	case api.Range:
		var items []api.Item
		a, b := r.value(args[0]), r.value(args[1])
		if len(a) == 1 && len(b) == 1 {
			from, to := integer(a[0]), integer(b[0])
			check(to-from < 200, api.ErrItems)
			for n := from; n <= to; n++ {
				items = append(items, api.Item{Atom: whole(n)})
			}
		}
		return items
	case api.Instance:
		return atoms(truth(types.Match(r.s, e.Type, args[0]...)))
	case api.Treat:
		check(types.Match(r.s, e.Type, args[0]...), api.ErrTreat)
		return args[0]
	case api.Cast:
		return r.cast(e.Type, args[0])
	case api.Castable:
		as := r.values(args[0])
		return atoms(truth(len(as) == 0 && e.Type.Occ == api.Opt || len(as) == 1 && atom.Castable(as[0], api.AtomKind(e.Type.Item))))
	case api.Convert:
		return r.convert(e.Type, args[0])
	}
	panic("an expression of no kind of the tests")
}

// pair is what comes of the values of one or two operands.
func (r *runner) pair(op api.Op, args [][]api.Item) []api.Item {
	var operands []api.Atom
	if op == api.Neg {
		operands, op = append(operands, whole(0)), api.Sub
	}
	none := false
	for _, arg := range args {
		as := r.value(arg)
		none = none || len(as) == 0
		operands = append(operands, as...)
	}
	if none {
		return nil
	}
	got, err := judgedPair(op, operands[0], operands[1])
	noError(err)
	return atoms(got)
}

func (r *runner) nodal(op api.Op, left, right []api.Item) []api.Item {
	if op < api.Union {
		check(len(left) < 2, api.ErrType)
		numbersOf(left, api.ErrType)
		check(len(right) < 2, api.ErrType)
	}
	a, b := numbersOf(left, api.ErrType), numbersOf(right, api.ErrType)
	switch op {
	case api.Union:
		return nodesOf(axis.Union(a, b)...)
	case api.Inter:
		return nodesOf(axis.Inter(a, b)...)
	case api.Except:
		return nodesOf(axis.Except(a, b)...)
	}
	if len(a)*len(b) == 0 {
		return nil
	}
	return atoms(truth(op == api.Is && a[0] == b[0] || op == api.Before && a[0] < b[0] || op == api.After && a[0] > b[0]))
}

func (r *runner) cast(ty api.SeqType, items []api.Item) []api.Item {
	as := r.value(items)
	if len(as) == 0 {
		check(ty.Occ == api.Opt, api.ErrType)
		return nil
	}
	a, err := atom.Cast(as[0], api.AtomKind(ty.Item))
	noError(err)
	return atoms(a)
}

func (r *runner) convert(ty api.SeqType, items []api.Item) []api.Item {
	if ty.Item != api.NoItem && ty.Item <= api.AtomItem {
		as := r.values(items)
		for i, a := range as {
			if a.Kind == api.Untyped && ty.Item < api.UntItem {
				var err api.Errno
				as[i], err = atom.Cast(a, api.AtomKind(ty.Item))
				noError(err)
			}
		}
		items = atoms(as...)
	}
	check(types.Match(r.s, ty, items...), api.ErrType)
	return items
}

func (r *runner) make(op api.Op, args [][]api.Item) []api.Item {
	t := api.Tree{Kind: []api.NodeKind{api.Elem, api.Attr, api.Text, api.Comment, api.Doc}[op-api.MakeElem]}
	if op == api.MakeElem || op == api.MakeAttr {
		name := r.value(args[0])
		check(len(name) == 1 && (name[0].Kind == api.Str || name[0].Kind == api.Untyped), api.ErrType)
		t.Name, args = name[0].S, args[1:]
	}
	content := deep.Join(" ", r.values(slices.Concat(args...))...)
	switch {
	case op == api.MakeText && content == "":
		return nil
	case op == api.MakeElem || op == api.MakeDoc:
		if content != "" {
			t.Kids = []api.Tree{{Kind: api.Text, Value: content}}
		}
	default:
		t.Value = content
	}
	n, err := r.s.Build(t)
	if err == api.ErrArg {
		err = api.ErrCast
	}
	noError(err)
	return nodesOf(n)
}

func (r *runner) call(p place, e api.Expr) []api.Item {
	if e.Name == "position" || e.Name == "last" {
		check(len(p.item) == 1, api.ErrFocus)
		return atoms(whole(map[string]int{"position": p.at, "last": p.size}[e.Name]))
	}
	args := r.all(p, e.Kids)
	for _, f := range r.funcs {
		if f.Name == e.Name && len(f.Params) == len(args) {
			check(p.deep < 10, api.ErrDepth)
			q := place{deep: p.deep + 1}
			for i, v := range f.Params {
				q = q.with(value{v.Name, args[i]})
			}
			return r.run(q, f.Body)
		}
	}
	var a []api.Item
	if len(args) > 0 {
		a = args[0]
	}
	switch e.Name {
	case "true", "false":
		return atoms(truth(e.Name == "true"))
	case "count":
		return atoms(whole(len(a)))
	case "empty", "exists":
		return atoms(truth(len(a) == 0 == (e.Name == "empty")))
	case "not", "boolean":
		return atoms(truth(r.truth(a) == (e.Name == "boolean")))
	case "data":
		return atoms(r.values(a)...)
	case "string":
		check(len(a) < 2, api.ErrType)
		return atoms(text(deep.Join("", r.values(a)...)))
	case "string-join":
		return atoms(text(deep.Join("-", append(r.values(a), r.value(args[1])...)...)))
	case "reverse":
		b := slices.Clone(a)
		slices.Reverse(b)
		return b
	case "exactly-one":
		check(len(a) == 1, api.ErrMany)
		return a
	case "one-or-more":
		check(len(a) > 0, api.ErrMany)
		return a
	case "zero-or-one":
		check(len(a) < 2, api.ErrMany)
		return a
	}
	panic(api.ErrUser)
}
