package opt_test

import (
	"math/rand"

	"espalier/api"
)

// grower makes cores at random, of many Lits.
type grower struct {
	*rand.Rand
	room  int // how many more expressions are wanted: without room all are short
	loose int // one in so many variables is bound by nothing, perhaps
	funcs []api.Func
	scope []string
}

func (g *grower) pick(words ...string) string { return words[g.Intn(len(words))] }

func (g *grower) of(ops ...api.Op) api.Op { return ops[g.Intn(len(ops))] }

func (g *grower) name() string { return g.pick("x", "y", "z") }

func (g *grower) kids(count int) []api.Expr {
	var es []api.Expr
	for range count {
		es = append(es, g.expr())
	}
	return es
}

// bound makes an expression while these names are in scope, too.
func (g *grower) bound(names ...string) api.Expr {
	size := len(g.scope)
	g.scope = append(g.scope, names...)
	e := g.expr()
	g.scope = g.scope[:size]
	return e
}

func (g *grower) seqType() api.SeqType {
	ty := of(api.ItemKind(g.Intn(api.ItemKinds)), api.Occ(g.Intn(api.Occs)))
	if ty.Item == api.NoItem {
		ty.Occ = api.Star
	}
	return ty
}

// wideType is often one that every sequence matches.
func (g *grower) wideType() api.SeqType {
	if g.Intn(2) == 0 {
		return of(api.AnyItem, api.Star)
	}
	return g.seqType()
}

func (g *grower) literal() api.Expr {
	switch g.Intn(12) {
	case 0:
		return lit(dec(g.Intn(9)*10+5, 1))
	case 1, 2:
		return str(g.pick("a", "b", "1", ""))
	case 3, 4:
		return lit(truth(g.Intn(2) == 0))
	case 5:
		return lit(values[g.Intn(len(values))])
	}
	return number(g.Intn(4))
}

func (g *grower) variable() api.Expr {
	if g.Intn(g.loose) == 0 {
		return variable(g.name())
	}
	if len(g.scope) == 0 {
		return g.literal()
	}
	return variable(g.pick(g.scope...))
}

func (g *grower) short() api.Expr {
	switch g.Intn(12) {
	case 0:
		return expr(api.Dot)
	case 1:
		return expr(api.Path, expr(g.of(api.Dot, api.Root)), g.step())
	case 2:
		return expr(api.Seq)
	case 3:
		return named(api.Call, g.pick("true", "false", "position", "last", "error"))
	case 4, 5, 6, 7:
		return g.variable()
	}
	return g.literal()
}

func (g *grower) step() api.Expr {
	e := api.Expr{Op: api.Step, Axis: api.Axis(1 + g.Intn(api.Axes-1)), Test: api.Test{Kind: api.TestKind(g.Intn(api.Tests))}}
	if e.Test.Kind == api.Named {
		e.Test.Name = g.pick("a", "b")
	}
	return e
}

// plain makes an expression of Lits, as they become Lits, if no error is in them.
func (g *grower) plain() api.Expr {
	g.room--
	if g.room < 0 || g.Intn(4) == 0 {
		return g.literal()
	}
	if g.Intn(4) > 0 {
		return expr(api.Add+api.Op(g.Intn(6)), g.plain(), g.plain())
	}
	test := lit(truth(g.Intn(2) == 0))
	if g.Intn(2) == 0 {
		test = expr(api.VEq+api.Op(g.Intn(6)), g.plain(), g.plain())
	}
	if g.Intn(3) == 0 {
		return test
	}
	return expr(api.If, test, g.plain(), g.plain())
}

// expr makes an expression.
func (g *grower) expr() api.Expr {
	g.room--
	if g.room < 0 || g.Intn(6) == 0 {
		return g.short()
	}
	switch g.Intn(14) {
	case 0, 1, 2:
		return g.let()
	case 3, 4:
		return g.binder()
	case 5:
		return g.chosen()
	case 6:
		return g.called()
	case 7:
		return g.made()
	case 8:
		return g.way()
	case 9:
		op := g.of(api.Instance, api.Treat, api.Convert, api.Castable, api.Cast)
		if op == api.Castable || op == api.Cast {
			return typed(op, of(api.IntItem+api.ItemKind(g.Intn(5)), api.Occ(g.Intn(2))), g.expr())
		}
		return typed(op, g.seqType(), g.expr())
	case 10:
		return expr(api.If, g.kids(3)...)
	case 11:
		return expr(api.Seq, g.kids(g.Intn(4))...)
	}
	return g.operator()
}

func (g *grower) operator() api.Expr {
	switch g.Intn(8) {
	case 0:
		return expr(api.Neg, g.expr())
	case 1:
		return expr(g.of(api.Range, api.Union, api.Inter, api.Except, api.And, api.Or, api.Is, api.Before, api.After), g.kids(2)...)
	case 2:
		return expr(api.GEq+api.Op(g.Intn(6)), g.kids(2)...)
	case 3, 4:
		return expr(api.VEq+api.Op(g.Intn(6)), g.kids(2)...)
	}
	return expr(api.Add+api.Op(g.Intn(6)), g.kids(2)...)
}

// let makes a Let, often of what may become a Lit.
func (g *grower) let() api.Expr {
	e := named(api.Let, g.name())
	switch g.Intn(4) {
	case 0:
		e.Kids = append(e.Kids, g.literal())
	case 1:
		room := g.room
		g.room = 3
		e.Kids = append(e.Kids, g.plain())
		g.room = room
	default:
		e.Kids = append(e.Kids, g.expr())
	}
	e.Kids = append(e.Kids, g.bound(e.Name))
	return e
}

func (g *grower) binder() api.Expr {
	e := named(g.of(api.For, api.For, api.Order, api.Some, api.Every), g.name(), g.expr())
	names := []string{e.Name}
	if at := g.name(); (e.Op == api.For || e.Op == api.Order) && g.Intn(2) == 0 && at != e.Name {
		e.At = at
		names = append(names, at)
	}
	count := 1
	if e.Op == api.Order {
		count, e.Down = 3, g.Intn(2) == 0
	}
	for range count {
		e.Kids = append(e.Kids, g.bound(names...))
	}
	return e
}

func (g *grower) chosen() api.Expr {
	e := expr(api.Switch, g.expr())
	for range 1 + g.Intn(3) {
		v := g.pick("x", "y", "z", "")
		names := []string{v}
		if v == "" {
			names = nil
		}
		e.Kids = append(e.Kids, api.Expr{Op: api.Case, Name: v, Type: g.wideType(), Kids: []api.Expr{g.bound(names...)}})
	}
	e.Kids[len(e.Kids)-1].Type = of(api.AnyItem, api.Star)
	return e
}

func (g *grower) called() api.Expr {
	if len(g.funcs) > 0 && g.Intn(3) == 0 {
		f := g.funcs[g.Intn(len(g.funcs))]
		e := named(api.Call, f.Name)
		for _, p := range f.Params {
			e.Kids = append(e.Kids, typed(api.Convert, p.Type, g.expr()))
		}
		return e
	}
	if g.Intn(6) == 0 {
		return named(api.Call, "string-join", g.kids(2)...)
	}
	return named(api.Call, g.pick("count", "empty", "exists", "not", "boolean", "data", "string", "reverse", "exactly-one", "one-or-more", "zero-or-one"), g.expr())
}

func (g *grower) made() api.Expr {
	op := api.MakeElem + api.Op(g.Intn(5))
	if op == api.MakeElem || op == api.MakeAttr {
		name := str(g.pick("a", "b", "c d"))
		if g.Intn(3) == 0 {
			name = g.expr()
		}
		return expr(op, append([]api.Expr{name}, g.kids(g.Intn(3))...)...)
	}
	return expr(op, g.expr())
}

// way makes a Path or a Filter.
func (g *grower) way() api.Expr {
	if g.Intn(2) == 0 {
		return expr(api.Filter, g.kids(2)...)
	}
	from := g.expr()
	if g.Intn(4) == 0 {
		return expr(api.Path, from, g.expr())
	}
	to := g.step()
	for g.Intn(3) == 0 {
		to = expr(api.Filter, to, g.expr())
	}
	return expr(api.Path, from, to)
}

// module makes a query, with the conversions of a core.
func (g *grower) module(room int) api.Module {
	var m api.Module
	for i := range g.Intn(3) {
		f := api.Func{Name: []string{"local:f", "local:g"}[i], Result: g.wideType()}
		for j := range g.Intn(3) {
			f.Params = append(f.Params, api.Param{Name: []string{"x", "y"}[j], Type: g.wideType()})
		}
		m.Funcs = append(m.Funcs, f)
	}
	g.funcs = m.Funcs
	for i, f := range m.Funcs {
		g.room, g.scope = room, nil
		for _, p := range f.Params {
			g.scope = append(g.scope, p.Name)
		}
		m.Funcs[i].Body = typed(api.Convert, f.Result, g.expr())
	}
	g.scope = nil
	for i := range g.Intn(3) {
		g.room = room
		x := api.Global{Name: []string{"z", "w"}[i], Type: g.wideType()}
		x.Body = typed(api.Convert, x.Type, g.expr())
		m.Globals, g.scope = append(m.Globals, x), append(g.scope, x.Name)
	}
	g.room = room
	m.Body = g.expr()
	return m
}
