package norm_test

import (
	"fmt"
	"math/rand"
	"slices"

	"espalier/api"
)

// grown is an expression as it is read, and as it is in the core where a path walks to it; elsewhere that is walked to by a path, if it is a step.
type grown struct {
	read, walked api.Expr
	step         bool
}

// core is what it is in the core, where no path walks to it.
func (g grown) core() api.Expr {
	if g.step {
		return expr(api.Path, expr(api.Dot), g.walked)
	}
	return g.walked
}

// same is an expression that the core has as it is.
func same(e api.Expr) grown { return grown{e, e, false} }

// grower makes queries and their cores side by side, and keeps which variables are free, as it comes to them.
type grower struct {
	*rand.Rand
	room  int        // how many more expressions are wanted: without room all are short
	funcs []api.Func // those of the query
	scope []string   // the names in scope
	outer int        // how many of them are bound outside of the expression
	free  []string   // the names that the expression doesn't bind, as they come first
}

func (g *grower) pick(words ...string) string { return words[g.Intn(len(words))] }

func (g *grower) name() string { return g.pick("a", "b", "c", "d", "e") }

func (g *grower) op(ops ...api.Op) api.Op { return ops[g.Intn(len(ops))] }

// bound makes something while these names are in scope, too.
func (g *grower) bound(make func() grown, more ...string) grown {
	size := len(g.scope)
	g.scope = append(g.scope, more...)
	e := make()
	g.scope = g.scope[:size]
	return e
}

func (g *grower) variable() grown {
	if len(g.scope) == 0 {
		return same(number(g.Intn(9)))
	}
	name := g.pick(g.scope...)
	if !slices.Contains(g.scope[g.outer:], name) && !slices.Contains(g.free, name) {
		g.free = append(g.free, name)
	}
	return same(variable(name))
}

// kids makes as many, and tells them as they are read, and in the core.
func (g *grower) kids(count int) (read, core []api.Expr) {
	for range count {
		e := g.expr()
		read, core = append(read, e.read), append(core, e.core())
	}
	return read, core
}

// of makes an expression of as many Kids that the core has so, too.
func (g *grower) of(e api.Expr, count int) grown {
	read, core := e, e
	read.Kids, core.Kids = g.kids(count)
	return grown{read, core, false}
}

func (g *grower) expr() grown {
	if g.room <= 0 {
		return g.leaf()
	}
	g.room--
	switch g.Intn(16) {
	case 0, 1:
		return g.flwor()
	case 2:
		return g.ordered()
	case 3:
		return g.quantified()
	case 4:
		return g.typeswitch()
	case 5, 6:
		return g.call()
	case 7:
		return g.path()
	case 8, 9:
		return g.filter()
	case 10:
		return g.made()
	case 11:
		return g.direct()
	case 12:
		return g.typed()
	case 13:
		return g.leaf()
	}
	return g.operation()
}

func (g *grower) leaf() grown {
	switch g.Intn(8) {
	case 0:
		return same(str(g.pick("", "s", "a'b", "<")))
	case 1:
		return same(literal(api.Atom{Kind: api.Dec, N: 15, Scale: 1}))
	case 2:
		return same(expr(g.op(api.Dot, api.Root)))
	case 3, 4:
		e := g.step()
		return grown{e, e, true}
	case 5:
		return same(number(g.Intn(9)))
	}
	return g.variable()
}

func (g *grower) step() api.Expr {
	e := step(g.name())
	e.Axis = api.Axis(1 + g.Intn(int(api.Axes)-1))
	if g.Intn(3) == 0 {
		e.Test = api.Test{Kind: api.TestKind(g.Intn(int(api.Tests)))}
		if e.Test.Kind == api.Named || e.Test.Kind == api.ElemTest {
			e.Test.Name = g.name()
		}
	}
	return e
}

func (g *grower) operation() grown {
	switch g.Intn(6) {
	case 0:
		return g.of(expr(api.Seq), []int{0, 2, 3}[g.Intn(3)])
	case 1:
		return g.of(expr(api.If), 3)
	case 2:
		return g.of(expr(api.Neg), 1)
	case 3:
		return g.of(expr(g.op(api.Range, api.Union, api.Inter, api.Except)), 2)
	}
	op := api.Add + api.Op(g.Intn(int(api.Or-api.Add)+1))
	if op == api.Neg {
		return g.of(expr(op), 1)
	}
	return g.of(expr(op), 2)
}

func (g *grower) typed() grown {
	e := expr(g.op(api.Instance, api.Treat))
	e.Type = g.anyType()
	if g.Intn(2) == 0 {
		e.Op, e.Type = g.op(api.Cast, api.Castable), api.SeqType{Item: api.IntItem + api.ItemKind(g.Intn(5)), Occ: api.Occ(g.Intn(2))}
	}
	return g.of(e, 1)
}

// anyType is a type as it is read.
func (g *grower) anyType() api.SeqType {
	t := api.SeqType{Item: api.ItemKind(g.Intn(int(api.ItemKinds))), Occ: api.Occ(g.Intn(int(api.Occs)))}
	switch {
	case t.Item == api.NoItem || g.Intn(3) == 0:
		return api.SeqType{Item: t.Item, Occ: api.Star}
	case (t.Item == api.ElemItem || t.Item == api.AttrItem) && g.Intn(2) == 0:
		t.Name = g.name()
	}
	return t
}

func (g *grower) quantified() grown {
	name, in := g.name(), g.expr()
	satisfies := g.bound(g.expr, name)
	op := g.op(api.Some, api.Every)
	return grown{named(op, name, in.read, satisfies.read), named(op, name, in.core(), satisfies.core()), false}
}

func (g *grower) typeswitch() grown {
	of := g.expr()
	read, core := expr(api.Switch, of.read), expr(api.Switch, of.core())
	count := 2 + g.Intn(2)
	for i := range count {
		c := api.Expr{Op: api.Case, Type: g.anyType()}
		if i == count-1 {
			c.Type = api.SeqType{Item: api.AnyItem, Occ: api.Star}
		}
		var more []string
		if g.Intn(2) == 0 {
			c.Name = g.name()
			more = []string{c.Name}
		}
		returned, in := g.bound(g.expr, more...), c
		c.Kids, in.Kids = []api.Expr{returned.read}, []api.Expr{returned.core()}
		read.Kids, core.Kids = append(read.Kids, c), append(core.Kids, in)
	}
	return grown{read, core, false}
}

func (g *grower) path() grown {
	a, b := g.expr(), g.expr()
	return grown{expr(api.Path, a.read, b.read), expr(api.Path, a.core(), b.walked), false}
}

func (g *grower) filter() grown {
	of := g.leaf
	if g.Intn(2) == 0 {
		of = g.expr
	}
	a, b := of(), g.expr()
	return grown{expr(api.Filter, a.read, b.read), expr(api.Filter, a.walked, b.core()), a.step}
}

func (g *grower) made() grown {
	if g.Intn(2) == 0 {
		return g.of(expr(g.op(api.MakeText, api.MakeCom, api.MakeDoc)), 1)
	}
	op := g.op(api.MakeElem, api.MakeAttr)
	if g.Intn(2) == 0 {
		return g.of(expr(op), 2)
	}
	name, content := g.name(), g.expr()
	return grown{named(op, name, content.read), expr(op, str(name), content.core()), false}
}

func (g *grower) direct() grown {
	name := g.name()
	read, core := named(api.Direct, name), expr(api.MakeElem, str(name))
	for i := range g.Intn(3) {
		attr := fmt.Sprint(g.name(), i)
		kids, cores := g.pieces(func(s string) api.Expr { return str(s) })
		read.Kids = append(read.Kids, named(api.DirAttr, attr, kids...))
		core.Kids = append(core.Kids, expr(api.MakeAttr, append([]api.Expr{str(attr)}, cores...)...))
	}
	kids, cores := g.pieces(func(s string) api.Expr { return expr(api.MakeText, str(s)) })
	read.Kids, core.Kids = append(read.Kids, kids...), append(core.Kids, cores...)
	return grown{read, core, false}
}

// pieces makes texts and expressions, no texts side by side.
func (g *grower) pieces(text func(s string) api.Expr) (read, core []api.Expr) {
	wasText := false
	for range g.Intn(4) {
		if !wasText && g.Intn(2) == 0 {
			s := g.pick("t", " u", "v<", "{")
			read, core = append(read, literal(api.Atom{Kind: api.Untyped, S: s})), append(core, text(s))
			wasText = true
			continue
		}
		e := g.expr()
		read, core, wasText = append(read, e.read), append(core, e.core()), false
	}
	return read, core
}

func (g *grower) call() grown {
	switch g.Intn(4) {
	case 0:
		e := g.expr()
		i := g.Intn(5)
		cast := api.Expr{Op: api.Cast, Type: api.SeqType{Item: api.IntItem + api.ItemKind(i), Occ: api.Opt}, Kids: []api.Expr{e.core()}}
		return grown{named(api.Call, []string{"xs:integer", "xs:decimal", "xs:string", "xs:boolean", "xs:untypedAtomic"}[i], e.read), cast, false}
	case 1:
		name := g.pick("string", "string-length", "normalize-space", "name", "root")
		return grown{named(api.Call, name), named(api.Call, name, expr(api.Dot)), false}
	case 2:
		if len(g.funcs) > 0 {
			return g.own(g.funcs[g.Intn(len(g.funcs))])
		}
	}
	switch g.Intn(4) {
	case 0:
		return g.of(named(api.Call, g.pick("true", "position", "last", "error")), 0)
	case 1:
		return g.of(named(api.Call, g.pick("concat", "index-of", "sum", "substring")), 2)
	}
	return g.of(named(api.Call, g.pick("count", "data", "string", "name", "doc", "error", "reverse")), 1)
}

// own is a call of a function of the query.
func (g *grower) own(f api.Func) grown {
	read, core := named(api.Call, f.Name), named(api.Call, f.Name)
	for _, p := range f.Params {
		e := g.expr()
		read.Kids, core.Kids = append(read.Kids, e.read), append(core.Kids, heldTo(p.Type, e.core()))
	}
	return grown{read, core, false}
}

// heldTo is an expression held to a type.
func heldTo(t api.SeqType, e api.Expr) api.Expr {
	if t.Item == api.AnyItem && t.Occ == api.Star {
		return e
	}
	return api.Expr{Op: api.Convert, Type: t, Kids: []api.Expr{e}}
}

// flwor makes one from the front, and its core, the last clause of which still lacks what is behind it, along with it.
func (g *grower) flwor() grown {
	size := len(g.scope)
	read := expr(api.Flwor)
	var ahead []api.Expr
	for range 1 + g.Intn(3) {
		c, in := api.Expr{Op: g.op(api.For, api.Let), Name: g.name()}, g.expr()
		if at := g.name(); c.Op == api.For && at != c.Name && g.Intn(2) == 0 {
			c.At = at
			g.scope = append(g.scope, at)
		}
		g.scope = append(g.scope, c.Name)
		c.Kids = []api.Expr{in.read}
		read.Kids = append(read.Kids, c)
		c.Kids = []api.Expr{in.core()}
		ahead = append(ahead, c)
	}
	if g.Intn(3) == 0 {
		kept := g.expr()
		read.Kids, ahead = append(read.Kids, expr(api.Where, kept.read)), append(ahead, expr(api.If, kept.core()))
	}
	returned := g.expr()
	read.Kids = append(read.Kids, returned.read)
	g.scope = g.scope[:size]
	return grown{read, nested(ahead, returned.core()), false}
}

// nested lays each of these around those behind it.
func nested(ahead []api.Expr, last api.Expr) api.Expr {
	if len(ahead) == 0 {
		return last
	}
	e := ahead[0]
	e.Kids = append(e.Kids, nested(ahead[1:], last))
	if e.Op == api.If {
		e.Kids = append(e.Kids, expr(api.Seq))
	}
	return e
}

func (g *grower) ordered() grown {
	loop, in := named(api.For, g.name()), g.expr()
	names := []string{loop.Name}
	if at := g.name(); at != loop.Name && g.Intn(2) == 0 {
		loop.At = at
		names = append(names, at)
	}
	loop.Kids = []api.Expr{in.read}
	read, core := expr(api.Flwor, loop), api.Expr{Op: api.Order, Name: loop.Name, At: loop.At, Down: g.Intn(2) == 0, Kids: []api.Expr{in.core()}}
	kept := same(literal(api.Atom{Kind: api.Bool, B: true}))
	if g.Intn(2) == 0 {
		kept = g.bound(g.expr, names...)
		read.Kids = append(read.Kids, expr(api.Where, kept.read))
	}
	key := g.bound(g.expr, names...)
	returned := g.bound(g.expr, names...)
	order := expr(api.Order, key.read)
	order.Down = core.Down
	read.Kids = append(read.Kids, order, returned.read)
	core.Kids = append(core.Kids, kept.core(), key.core(), returned.core())
	return grown{read, core, false}
}

// part makes one of the query's expressions, in the scope of these names, and tells which are free in it.
func (g *grower) part(scope ...string) (grown, []string) {
	g.scope, g.outer, g.free = slices.Clone(scope), len(scope), nil
	e := g.expr()
	return e, g.free
}

// module makes a query and its core, and the free names of its parts: its globals, functions and body.
func (g *grower) module(room int) (read, core api.Module, free [][]string) {
	g.funcs, g.room = nil, room
	for i := range g.Intn(4) {
		f := api.Func{Name: "local:" + g.pick("f", "g", "string", "count"), Result: g.anyType()}
		for j := range i {
			f.Params = append(f.Params, api.Param{Name: string(rune('a' + j)), Type: g.anyType()})
		}
		g.funcs = append(g.funcs, f)
	}
	var globals []string
	for i := range g.Intn(4) {
		global := api.Global{Name: string(rune('a' + i)), Type: g.anyType()}
		e, names := g.part(globals...)
		global.Body = e.read
		read.Globals = append(read.Globals, global)
		global.Body = heldTo(global.Type, e.core())
		core.Globals = append(core.Globals, global)
		globals, free = append(globals, global.Name), append(free, names)
	}
	for _, f := range g.funcs {
		var params []string
		for _, p := range f.Params {
			params = append(params, p.Name)
		}
		e, names := g.part(params...)
		f.Body = e.read
		read.Funcs = append(read.Funcs, f)
		f.Body = heldTo(f.Result, e.core())
		core.Funcs, free = append(core.Funcs, f), append(free, names)
	}
	e, names := g.part(globals...)
	read.Body, core.Body = e.read, e.core()
	return read, core, append(free, names)
}
