package infer_test

import (
	"math/rand"

	"espalier/api"
)

// grower makes cores at random.
type grower struct {
	*rand.Rand
	room  int // how many more expressions are wanted: without room all are short
	funcs []api.Func
	loose bool // are variables asked for that are nowhere bound?
	scope []string
}

func (g *grower) pick(words ...string) string { return words[g.Intn(len(words))] }

func (g *grower) name() string { return g.pick("x", "y", "z") }

// declaredType is any of the types that a query can declare, those of many items more often.
func (g *grower) declaredType() api.SeqType {
	ts := declared()
	ty := ts[g.Intn(len(ts))]
	if ty != empty && g.Intn(2) == 0 {
		ty.Occ = api.Star
	}
	return ty
}

// easyType is often one that every sequence matches.
func (g *grower) easyType() api.SeqType {
	if g.Intn(2) == 0 {
		return of(api.AnyItem, api.Star)
	}
	return g.declaredType()
}

// bound makes an expression while these names are in scope, too.
func (g *grower) bound(names ...string) api.Expr {
	size := len(g.scope)
	g.scope = append(g.scope, names...)
	e := g.expr()
	g.scope = g.scope[:size]
	return e
}

func (g *grower) kids(count int) []api.Expr {
	var es []api.Expr
	for range count {
		es = append(es, g.expr())
	}
	return es
}

func (g *grower) variable() api.Expr {
	if g.loose && g.Intn(8) == 0 {
		return variable(g.name())
	}
	if len(g.scope) == 0 {
		return number(g.Intn(3))
	}
	return variable(g.pick(g.scope...))
}

func (g *grower) literal() api.Expr {
	switch g.Intn(9) {
	case 0:
		return literal(api.Atom{Kind: api.Dec, N: 15, Scale: 1})
	case 1:
		return str(g.pick("a", "b", "1", ""))
	case 2:
		return named(api.Call, g.pick("true", "false"))
	case 3:
		return expr(api.Seq)
	}
	return number(g.Intn(4))
}

func (g *grower) short() api.Expr {
	switch g.Intn(8) {
	case 0, 1, 2:
		return g.literal()
	case 3:
		return expr(api.Dot)
	case 4:
		return expr(api.Root)
	case 5:
		return expr(api.Path, expr(api.Dot), g.step())
	}
	return g.variable()
}

func (g *grower) step() api.Expr {
	e := api.Expr{Op: api.Step, Axis: api.Axis(1 + g.Intn(api.Axes-1)), Test: api.Test{Kind: api.TestKind(g.Intn(api.Tests))}}
	if k := e.Test.Kind; k == api.Named || (k == api.ElemTest || k == api.AttrTest) && g.Intn(2) == 0 {
		e.Test.Name = g.pick("a", "b")
	}
	return e
}

// to is what a path walks to.
func (g *grower) to() api.Expr {
	if g.Intn(4) == 0 {
		return g.expr()
	}
	e := g.step()
	for g.Intn(4) == 0 {
		e = expr(api.Filter, e, g.expr())
	}
	return e
}

// expr makes an expression.
func (g *grower) expr() api.Expr {
	g.room--
	if g.room < 0 || g.Intn(6) == 0 {
		return g.short()
	}
	switch g.Intn(12) {
	case 0, 1:
		return g.binder()
	case 2:
		return g.chosen()
	case 3, 4:
		return g.called()
	case 5:
		return g.made()
	case 6:
		return expr(api.Path, g.expr(), g.to())
	case 7:
		op := []api.Op{api.Instance, api.Treat, api.Convert, api.Convert}[g.Intn(4)]
		return typed(op, g.declaredType(), g.expr())
	case 8:
		op := []api.Op{api.Cast, api.Cast, api.Castable}[g.Intn(3)]
		return typed(op, of(api.IntItem+api.ItemKind(g.Intn(5)), api.Occ(g.Intn(2))), g.expr())
	case 9:
		return expr(api.If, g.kids(3)...)
	case 10:
		return expr(api.Seq, g.kids(g.Intn(4))...)
	}
	return g.operator()
}

func (g *grower) operator() api.Expr {
	ops := []api.Op{api.Filter, api.Filter, api.Range, api.Neg, api.Union, api.Inter, api.Except, api.And, api.Or}
	op := ops[g.Intn(len(ops))]
	if g.Intn(3) > 0 {
		op = api.Add + api.Op(g.Intn(int(api.After-api.Add)+1))
	}
	if op == api.Neg {
		return expr(op, g.expr())
	}
	return expr(op, g.kids(2)...)
}

func (g *grower) binder() api.Expr {
	op := []api.Op{api.For, api.For, api.Let, api.Order, api.Some, api.Every}[g.Intn(6)]
	e := named(op, g.name(), g.expr())
	names := []string{e.Name}
	if (op == api.For || op == api.Order) && g.Intn(2) == 0 {
		e.At = "p"
		names = append(names, e.At)
	}
	count := 1
	if op == api.Order {
		count, e.Down = 3, g.Intn(2) == 0
	}
	for range count {
		e.Kids = append(e.Kids, g.bound(names...))
	}
	return e
}

func (g *grower) chosen() api.Expr {
	e := expr(api.Switch, g.expr())
	for range g.Intn(3) {
		v := g.name()
		e.Kids = append(e.Kids, api.Expr{Op: api.Case, Name: v, Type: g.declaredType(), Kids: []api.Expr{g.bound(v)}})
	}
	v := g.name()
	e.Kids = append(e.Kids, api.Expr{Op: api.Case, Name: v, Type: of(api.AnyItem, api.Star), Kids: []api.Expr{g.bound(v)}})
	return e
}

func (g *grower) called() api.Expr {
	if len(g.funcs) > 0 && g.Intn(4) == 0 {
		f := g.funcs[g.Intn(len(g.funcs))]
		e := named(api.Call, f.Name)
		for _, p := range f.Params {
			e.Kids = append(e.Kids, typed(api.Convert, p.Type, g.expr()))
		}
		return e
	}
	if g.Intn(2) == 0 {
		f := made[g.Intn(len(made))]
		return named(api.Call, f.name, g.kids(f.args[g.Intn(len(f.args))])...)
	}
	f := fixed[g.Intn(len(fixed))]
	return named(api.Call, g.pick(f.name...), g.kids(f.args[g.Intn(min(len(f.args), 2))])...)
}

func (g *grower) made() api.Expr {
	op := api.MakeElem + api.Op(g.Intn(5))
	if op == api.MakeElem || op == api.MakeAttr {
		name := str(g.pick("a", "b", "c d"))
		if g.Intn(3) == 0 {
			name = g.expr()
		}
		return expr(op, append([]api.Expr{name}, g.kids(g.Intn(3))...)...)
	}
	return expr(op, g.expr())
}

// module makes a query, with the conversions of a core.
func (g *grower) module(room int) api.Module {
	var m api.Module
	for i := range g.Intn(3) {
		f := api.Func{Name: []string{"local:f", "local:g"}[i], Result: g.easyType()}
		for j := range g.Intn(3) {
			f.Params = append(f.Params, api.Param{Name: []string{"x", "y"}[j], Type: g.easyType()})
		}
		m.Funcs = append(m.Funcs, f)
	}
	g.funcs = m.Funcs
	for i, f := range m.Funcs {
		g.room, g.scope = room, nil
		for _, p := range f.Params {
			g.scope = append(g.scope, p.Name)
		}
		m.Funcs[i].Body = typed(api.Convert, f.Result, g.expr())
	}
	g.scope = nil
	for i := range g.Intn(3) {
		g.room = room
		x := api.Global{Name: []string{"z", "w"}[i], Type: g.easyType()}
		x.Body = typed(api.Convert, x.Type, g.expr())
		m.Globals, g.scope = append(m.Globals, x), append(g.scope, x.Name)
	}
	g.room = room
	m.Body = g.expr()
	return m
}
