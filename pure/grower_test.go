package pure_test

import (
	"math/rand"
	"strings"

	"espalier/api"
)

// grower makes cores at random.
type grower struct {
	*rand.Rand
	room int // how many more expressions are wanted: without room all are short
	odd  int // one in so many is one that isn't safe
}

func (g *grower) pick(words ...string) string { return words[g.Intn(len(words))] }

func (g *grower) name() string { return g.pick("x", "y", "z") }

func (g *grower) of(ops ...api.Op) api.Op { return ops[g.Intn(len(ops))] }

func (g *grower) kids(count int) []api.Expr {
	var es []api.Expr
	for range count {
		es = append(es, g.expr())
	}
	return es
}

func (g *grower) seqType() api.SeqType {
	return api.SeqType{Item: api.ItemKind(g.Intn(api.ItemKinds)), Occ: api.Occ(g.Intn(api.Occs))}
}

func (g *grower) short() api.Expr {
	if g.Intn(g.odd) == 0 {
		switch g.Intn(6) {
		case 0:
			return expr(api.Root)
		case 1:
			return named(api.Call, g.pick("position", "last"))
		case 2:
			return named(api.Call, g.pick("local:f", "error"))
		case 3:
			return path()
		}
		return expr(api.Dot)
	}
	switch g.Intn(6) {
	case 0:
		return literals[g.Intn(len(literals))]
	case 1:
		return expr(api.Seq)
	case 2:
		return named(api.Call, g.pick("true", "false"))
	}
	return variable(g.name())
}

// expr makes an expression.
func (g *grower) expr() api.Expr {
	g.room--
	if g.room < 0 || g.Intn(6) == 0 {
		return g.short()
	}
	if g.Intn(g.odd) == 0 {
		return g.unsafe()
	}
	switch g.Intn(5) {
	case 0:
		return expr(api.Seq, g.kids(1+g.Intn(3))...)
	case 1:
		e := expr(g.of(api.Instance, api.Castable), g.kids(1)...)
		e.Type = g.seqType()
		return e
	case 2:
		return named(api.Call, g.pick("count", "empty", "exists", "reverse", "data"), g.kids(1)...)
	}
	return g.binder(g.of(api.For, api.Let), 2)
}

func (g *grower) binder(op api.Op, kids int) api.Expr {
	e := named(op, g.name(), g.kids(kids)...)
	if (op == api.For || op == api.Order) && g.Intn(2) == 0 {
		e.At = g.name()
	}
	e.Down = op == api.Order && g.Intn(2) == 0
	return e
}

// unsafe makes an expression that isn't safe.
func (g *grower) unsafe() api.Expr {
	switch g.Intn(9) {
	case 0:
		return g.binder(api.Order, 4)
	case 1:
		return g.binder(g.of(api.Some, api.Every), 2)
	case 2:
		return g.chosen()
	case 3:
		return g.called()
	case 4:
		return g.made()
	case 5, 6:
		return g.way()
	case 7:
		e := expr(g.of(api.Cast, api.Treat, api.Convert, api.Neg), g.kids(1)...)
		if e.Op != api.Neg {
			e.Type = g.seqType()
		}
		return e
	}
	if g.Intn(5) == 0 {
		return expr(api.If, g.kids(3)...)
	}
	return expr(g.of(api.Range, api.Add, api.Mod, api.VEq, api.VGe, api.GEq, api.GGe, api.Is, api.After, api.And, api.Or, api.Union, api.Except), g.kids(2)...)
}

// way makes a Path or a Filter.
func (g *grower) way() api.Expr {
	if g.Intn(2) == 0 {
		return expr(api.Filter, g.kids(2)...)
	}
	to := g.expr()
	if g.Intn(2) == 0 {
		to = step()
		for g.Intn(3) == 0 {
			to = expr(api.Filter, to, g.expr())
		}
	}
	return expr(api.Path, g.expr(), to)
}

func (g *grower) chosen() api.Expr {
	e := expr(api.Switch, g.expr())
	for range 1 + g.Intn(3) {
		c := named(api.Case, g.pick("x", "y", "z", ""), g.expr())
		c.Type = g.seqType()
		e.Kids = append(e.Kids, c)
	}
	return e
}

// called makes a Call of any function, often with a right count of arguments.
func (g *grower) called() api.Expr {
	if g.Intn(5) == 0 {
		return named(api.Call, g.pick("local:f", "local:count", "count", "data", "true", "last"), g.kids(g.Intn(4))...)
	}
	b := builtin[g.Intn(len(builtin))]
	return named(api.Call, g.pick(strings.Fields(b.names)...), g.kids(b.least+g.Intn(b.most-b.least+1))...)
}

func (g *grower) made() api.Expr {
	op := api.MakeElem + api.Op(g.Intn(5))
	if op == api.MakeElem || op == api.MakeAttr {
		return expr(op, append([]api.Expr{str("a")}, g.kids(g.Intn(3))...)...)
	}
	return expr(op, g.expr())
}
