package norm_test

import (
	"slices"
	"testing"

	"espalier/api"
	"espalier/norm"
	"espalier/parse"
	"espalier/scope"
)

// stranger stands in the spare room of lists, where no call has business.
const stranger = "stranger"

// roomy is a copy of a list, with a stranger in its spare room.
func roomy[T any](all []T, each func(T) T, last T) []T {
	more := make([]T, 0, len(all)+1)
	for _, x := range all {
		more = append(more, each(x))
	}
	return append(more, last)[:len(all)]
}

// apart is a tree that shares no list with another one, each list with spare room.
func apart(e api.Expr) api.Expr {
	e.Kids = roomy(e.Kids, apart, variable(stranger))
	return e
}

// apartModule is a query that shares no list with another one, each list with spare room.
func apartModule(m api.Module) api.Module {
	param := func(p api.Param) api.Param { return p }
	m.Globals = roomy(m.Globals, func(g api.Global) api.Global {
		g.Body = apart(g.Body)
		return g
	}, api.Global{Name: stranger})
	m.Funcs = roomy(m.Funcs, func(f api.Func) api.Func {
		f.Params, f.Body = roomy(f.Params, param, api.Param{Name: stranger}), apart(f.Body)
		return f
	}, api.Func{Name: stranger})
	m.Body = apart(m.Body)
	return m
}

// held tells whether two lists are the same, or with their spare room.
func held[T any](a, b []T, room bool, same func(a, b T) bool) bool {
	if room {
		a, b = a[:cap(a)], b[:cap(b)]
	}
	return slices.EqualFunc(a, b, same)
}

// equal tells whether two trees are the same, or with the spare room of their lists.
func equal(a, b api.Expr, room bool) bool {
	return a.Op == b.Op && a.Name == b.Name && a.At == b.At && a.Val == b.Val && a.Type == b.Type && a.Axis == b.Axis && a.Test == b.Test && a.Down == b.Down &&
		held(a.Kids, b.Kids, room, func(a, b api.Expr) bool { return equal(a, b, room) })
}

// equalModule tells whether two queries are the same, or with the spare room of their lists.
func equalModule(a, b api.Module, room bool) bool {
	return held(a.Globals, b.Globals, room, func(a, b api.Global) bool {
		return a.Name == b.Name && a.Type == b.Type && equal(a.Body, b.Body, room)
	}) && held(a.Funcs, b.Funcs, room, func(a, b api.Func) bool {
		return a.Name == b.Name && a.Result == b.Result && held(a.Params, b.Params, room, func(a, b api.Param) bool { return a == b }) && equal(a.Body, b.Body, room)
	}) && equal(a.Body, b.Body, room)
}

// places counts the places of all that the lists of a query hold, their spare room too.
type places map[any]int

func (p places) expr(e api.Expr) {
	room := e.Kids[:cap(e.Kids)]
	for i := range room {
		p[&room[i]]++
		p.expr(room[i])
	}
}

func (p places) module(m api.Module) {
	globals, funcs := m.Globals[:cap(m.Globals)], m.Funcs[:cap(m.Funcs)]
	for i := range globals {
		p[&globals[i]]++
		p.expr(globals[i].Body)
	}
	for i := range funcs {
		p[&funcs[i]]++
		p.expr(funcs[i].Body)
		params := funcs[i].Params[:cap(funcs[i].Params)]
		for j := range params {
			p[&params[j]]++
		}
	}
	p.expr(m.Body)
}

// scribble writes over all that a query holds, the spare room of its lists too.
func scribble(m api.Module) {
	p := places{}
	p.module(m)
	for place := range p {
		switch x := place.(type) {
		case *api.Expr:
			*x = variable(stranger)
		case *api.Global:
			*x = api.Global{Name: stranger}
		case *api.Func:
			*x = api.Func{Name: stranger}
		case *api.Param:
			*x = api.Param{Name: stranger}
		}
	}
}

// brought is what Core answers of a query, held to what holds of every answer: the query stays, the answer is its own, core throughout, and has the same free names.
func brought(t *testing.T, m api.Module) (api.Module, api.Errno) {
	t.Helper()
	m = apartModule(m)
	was := apartModule(m)
	got, err := norm.Core(m)
	told := apartModule(got)
	again, then := norm.Core(m)
	if then != err || !equalModule(again, got, false) {
		t.Errorf("Core: two answers")
	}
	own := places{}
	own.module(m)
	own.module(got)
	own.module(again)
	for _, count := range own {
		if count > 1 {
			t.Fatalf("Core: lists of its answers share room, or with what it was handed")
		}
	}
	scribble(again)
	if !equalModule(got, told, false) {
		t.Errorf("Core: an answer changes with another one")
	}
	if !equalModule(m, was, true) {
		t.Errorf("Core changed what it was handed, or its answer was changed in it")
	}
	if want := scope.Check(was); err != want {
		t.Errorf("Core: %v, where Check answers %v", err, want)
	}
	if err != api.OK {
		if !equalModule(got, api.Module{}, false) {
			t.Errorf("Core: a query beside %v", err)
		}
		return got, err
	}
	holdParts(t, was, got)
	return got, err
}

// holdParts holds the expressions of a core to what holds of all of them.
func holdParts(t *testing.T, m, core api.Module) {
	t.Helper()
	if len(core.Globals) != len(m.Globals) || len(core.Funcs) != len(m.Funcs) {
		t.Fatalf("Core: %d globals and %d functions of %d and %d", len(core.Globals), len(core.Funcs), len(m.Globals), len(m.Funcs))
	}
	for i, g := range core.Globals {
		holdPart(t, m.Globals[i].Body, g.Body)
	}
	for i, f := range core.Funcs {
		holdPart(t, m.Funcs[i].Body, f.Body)
	}
	holdPart(t, m.Body, core.Body)
}

func holdPart(t *testing.T, e, core api.Expr) {
	t.Helper()
	if !isCore(t, core) {
		t.Errorf("IsCore of what Core answers: false")
	}
	if got, want := scope.Free(core), scope.Free(e); !slices.Equal(got, want) {
		t.Errorf("the core's free names: %q, not %q", got, want)
	}
}

// isCore is what IsCore answers, twice, of an expression that it must leave as it is.
func isCore(t *testing.T, e api.Expr) bool {
	t.Helper()
	e = apart(e)
	was := apart(e)
	got := norm.IsCore(e)
	if norm.IsCore(e) != got {
		t.Errorf("IsCore: two answers")
	}
	if !equal(e, was, true) {
		t.Errorf("IsCore changed what it was handed")
	}
	return got
}

// read is the tree of a text that must be a query.
func read(t *testing.T, s string) api.Module {
	t.Helper()
	m, e := parse.Parse(s)
	if e != api.OK {
		t.Fatalf("Parse(%q): %v", short(s), e)
	}
	return m
}

// coreOf is the core of a text that must be a query whose names are right.
func coreOf(t *testing.T, s string) api.Module {
	t.Helper()
	core, e := brought(t, read(t, s))
	if e != api.OK {
		t.Fatalf("Core(%q): %v", short(s), e)
	}
	return core
}

// hold holds the core of a text's Body to what the notation says.
func hold(t *testing.T, s, want string) {
	t.Helper()
	if got := show(coreOf(t, s).Body); got != want {
		t.Fatalf("Core(%q): %s, not %s", short(s), short(got), short(want))
	}
}

// holdModule holds the core of a text, all of it, to what the notation says.
func holdModule(t *testing.T, s, want string) {
	t.Helper()
	if got := showModule(coreOf(t, s)); got != want {
		t.Errorf("Core(%q): %s, not %s", short(s), short(got), short(want))
	}
}

// short is as much of a text as can be told.
func short(s string) string {
	const most = 600
	if len(s) > most {
		return s[:most] + " .."
	}
	return s
}

func expr(op api.Op, kids ...api.Expr) api.Expr { return api.Expr{Op: op, Kids: kids} }

func named(op api.Op, name string, kids ...api.Expr) api.Expr {
	return api.Expr{Op: op, Name: name, Kids: kids}
}

func variable(name string) api.Expr { return api.Expr{Op: api.Var, Name: name} }

func literal(a api.Atom) api.Expr { return api.Expr{Op: api.Lit, Val: a} }

func number(n int) api.Expr { return literal(api.Atom{Kind: api.Int, N: n}) }

func str(s string) api.Expr { return literal(api.Atom{Kind: api.Str, S: s}) }

func step(name string) api.Expr {
	return api.Expr{Op: api.Step, Axis: api.Child, Test: api.Test{Kind: api.Named, Name: name}}
}
