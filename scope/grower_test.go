package scope_test

import (
	"fmt"
	"maps"
	"math/rand"
	"slices"

	"espalier/api"
)

// grower makes queries, each expression ahead of its Kids and these in order, and keeps what is wrong in them and which variables are free, as it comes to them.
type grower struct {
	*rand.Rand
	room   int              // how many more expressions are wanted: without room all are short
	wrong  int              // one thing of so many may be wrong; of 0 none is
	funcs  []api.Func       // those of the query
	scope  []string         // the names in scope
	outer  int              // how many of them are bound outside of the expression
	faults []api.Errno      // what is wrong, in order
	free   []string         // the names that the expression doesn't bind, as they come first
	all    map[string]arity // the functions that are there
	known  []string         // their names
	parts  []grownPart      // the expressions of the query
}

// newGrower is a grower of a seed.
func newGrower(seed int64) *grower {
	all := arities()
	return &grower{Rand: rand.New(rand.NewSource(seed)), all: all, known: slices.Sorted(maps.Keys(all))}
}

// grownPart is an expression and the names that it doesn't bind.
type grownPart struct {
	e    api.Expr
	free []string
}

func (g *grower) pick(words ...string) string { return words[g.Intn(len(words))] }

func (g *grower) name() string { return g.pick("a", "b", "c", "d", "e") }

// amiss tells whether something may be wrong here.
func (g *grower) amiss() bool { return g.wrong > 0 && g.Intn(g.wrong) == 0 }

// found keeps a fault, if there is one.
func (g *grower) found(is bool, err api.Errno) {
	if is {
		g.faults = append(g.faults, err)
	}
}

// in makes something while these names are in scope, too.
func (g *grower) in(make func() api.Expr, more ...string) api.Expr {
	size := len(g.scope)
	g.scope = append(g.scope, more...)
	e := make()
	g.scope = g.scope[:size]
	return e
}

func (g *grower) variable() api.Expr {
	if len(g.scope) == 0 && !g.amiss() {
		return number(g.Intn(9))
	}
	name := g.name()
	if len(g.scope) > 0 && !g.amiss() {
		name = g.pick(g.scope...)
	}
	g.found(!slices.Contains(g.scope, name), api.ErrName)
	if !slices.Contains(g.scope[g.outer:], name) && !slices.Contains(g.free, name) {
		g.free = append(g.free, name)
	}
	return variable(name)
}

func (g *grower) call() api.Expr {
	name := g.pick(g.known...)
	count := g.all[name].least + g.Intn(g.all[name].most-g.all[name].least+1)
	if len(g.funcs) > 0 && g.Intn(2) == 0 {
		f := g.funcs[g.Intn(len(g.funcs))]
		name, count = f.Name, len(f.Params)
	}
	if g.amiss() {
		name, count = g.pick(name, "f", "local:f", "local:g", "local:count", "count", "true", "concat"), g.Intn(4)
	}
	a, ok := g.all[name]
	declared := slices.ContainsFunc(g.funcs, func(f api.Func) bool { return f.Name == name && len(f.Params) == count })
	g.found((!ok || count < a.least || count > a.most) && !declared, api.ErrFunc)
	return named(api.Call, name, g.kids(count)...)
}

func (g *grower) kids(count int) []api.Expr {
	var all []api.Expr
	for range count {
		all = append(all, g.expr())
	}
	return all
}

// expr makes an expression.
func (g *grower) expr() api.Expr {
	if g.room <= 0 {
		return g.variable()
	}
	g.room--
	switch g.Intn(12) {
	case 0, 1, 2:
		return g.flwor()
	case 3:
		op, name, in := api.Some+api.Op(g.Intn(2)), g.name(), g.expr()
		return named(op, name, in, g.in(g.expr, name))
	case 4:
		return g.typeswitch()
	case 5, 6:
		return g.call()
	case 7, 8:
		return g.variable()
	}
	return g.plain()
}

// plain makes an expression that neither binds nor asks for a name.
func (g *grower) plain() api.Expr {
	e := api.Expr{Op: api.Add + api.Op(g.Intn(int(api.Or-api.Add)+1))}
	switch g.Intn(10) {
	case 0:
		return expr(api.Seq, g.kids([]int{0, 2, 3}[g.Intn(3)])...)
	case 1:
		return expr(api.If, g.kids(3)...)
	case 2:
		return expr([]api.Op{api.Path, api.Filter, api.Range, api.Union, api.Inter, api.Except}[g.Intn(6)], g.kids(2)...)
	case 3:
		e.Op = []api.Op{api.Instance, api.Treat, api.Cast, api.Castable}[g.Intn(4)]
		e.Type = api.SeqType{Item: api.IntItem, Occ: api.Opt}
		e.Kids = g.kids(1)
		return e
	case 4:
		return expr([]api.Op{api.MakeElem, api.MakeAttr}[g.Intn(2)], g.kids(2)...)
	case 5:
		return named([]api.Op{api.MakeElem, api.MakeAttr}[g.Intn(2)], g.name(), g.kids(1)...)
	case 6:
		return expr([]api.Op{api.MakeText, api.MakeCom, api.MakeDoc}[g.Intn(3)], g.kids(1)...)
	case 7:
		return g.direct()
	case 8:
		return []api.Expr{number(1), expr(api.Dot), expr(api.Root), {Op: api.Step, Axis: api.Child, Test: api.Test{Kind: api.Named, Name: g.name()}}}[g.Intn(4)]
	}
	if e.Op == api.Neg {
		return expr(api.Neg, g.kids(1)...)
	}
	e.Kids = g.kids(2)
	return e
}

func (g *grower) direct() api.Expr {
	e := named(api.Direct, g.name())
	if g.Intn(2) == 0 {
		e.Kids = append(e.Kids, named(api.DirAttr, g.name(), g.kids(g.Intn(3))...))
	}
	if g.Intn(2) == 0 {
		e.Kids = append(e.Kids, api.Expr{Op: api.Lit, Val: api.Atom{Kind: api.Untyped, S: "t"}})
	}
	e.Kids = append(e.Kids, g.kids(g.Intn(3))...)
	return e
}

func (g *grower) typeswitch() api.Expr {
	e := expr(api.Switch, g.expr())
	count := 2 + g.Intn(2)
	for i := range count {
		c := api.Expr{Op: api.Case, Type: api.SeqType{Item: api.IntItem}}
		if i == count-1 {
			c.Type = api.SeqType{Item: api.AnyItem, Occ: api.Star}
		}
		var more []string
		if g.Intn(3) > 0 {
			c.Name = g.name()
			more = []string{c.Name}
		}
		c.Kids = []api.Expr{g.in(g.expr, more...)}
		e.Kids = append(e.Kids, c)
	}
	return e
}

func (g *grower) flwor() api.Expr {
	var ops []api.Op
	for range 1 + g.Intn(3) {
		ops = append(ops, api.For+api.Op(g.Intn(2)))
	}
	right := len(ops) == 1 && ops[0] == api.For
	if g.Intn(3) == 0 {
		ops = append(ops, api.Where)
	}
	if (right || g.amiss()) && g.Intn(3) > 0 {
		ops = append(ops, api.Order)
		g.found(!right, api.ErrSyntax)
	}
	return g.in(func() api.Expr {
		e := expr(api.Flwor)
		for _, op := range ops {
			e.Kids = append(e.Kids, g.clause(op))
		}
		e.Kids = append(e.Kids, g.expr())
		return e
	})
}

// clause makes a clause; its names are in scope from now on.
func (g *grower) clause(op api.Op) api.Expr {
	c := expr(op)
	var more []string
	switch op {
	case api.For, api.Let:
		c.Name = g.name()
		more = append(more, c.Name)
	case api.Order:
		c.Down = g.Intn(2) == 0
	}
	if at := g.name(); op == api.For && g.Intn(2) == 0 && (at != c.Name || g.amiss()) {
		c.At = at
		more = append(more, at)
		g.found(at == c.Name, api.ErrRedo)
	}
	c.Kids = g.kids(1)
	g.scope = append(g.scope, more...)
	return c
}

// part makes one of the query's expressions, in the scope of these names.
func (g *grower) part(scope ...string) api.Expr {
	g.scope, g.outer, g.free = slices.Clone(scope), len(scope), nil
	e := g.expr()
	g.parts = append(g.parts, grownPart{e, g.free})
	return e
}

// header makes what a function declares.
func (g *grower) header() api.Func {
	f := api.Func{Name: fmt.Sprint("local:", g.pick("f", "g", "count"), len(g.funcs)), Result: api.SeqType{Item: api.AnyItem, Occ: api.Star}}
	if g.amiss() {
		f.Name = g.pick("local:f0", "local:g1", "f")
	}
	count := g.Intn(4)
	if g.amiss() {
		count = 7 + g.Intn(3)
	}
	for i := range count {
		p := api.Param{Name: fmt.Sprint(string(rune('a' + i))), Type: f.Result}
		if g.amiss() {
			p.Name = g.name()
		}
		f.Params = append(f.Params, p)
	}
	names := paramNames(f)
	g.found(f.Name[0] != 'l', api.ErrFunc)
	g.found(slices.ContainsFunc(g.funcs, func(o api.Func) bool { return o.Name == f.Name && len(o.Params) == count }), api.ErrRedo)
	g.found(count > 8, api.ErrLong)
	slices.Sort(names)
	g.found(len(slices.Compact(names)) < count, api.ErrRedo)
	return f
}

func paramNames(f api.Func) []string {
	var all []string
	for _, p := range f.Params {
		all = append(all, p.Name)
	}
	return all
}

// module makes a query.
func (g *grower) module() api.Module {
	var m api.Module
	g.funcs, g.faults, g.parts = nil, nil, nil
	for range g.Intn(4) {
		g.funcs = append(g.funcs, g.header())
	}
	var globals []string
	for i := range g.Intn(4) {
		name := string(rune('a' + i))
		if g.amiss() {
			name = g.name()
		}
		g.found(slices.Contains(globals, name), api.ErrRedo)
		globals = append(globals, name)
	}
	for i, name := range globals {
		m.Globals = append(m.Globals, api.Global{Name: name, Type: api.SeqType{Item: api.AnyItem, Occ: api.Star}, Body: g.part(globals[:i]...)})
	}
	for i, f := range g.funcs {
		g.funcs[i].Body = g.part(paramNames(f)...)
	}
	m.Funcs = g.funcs
	m.Body = g.part(globals...)
	return m
}
