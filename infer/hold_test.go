package infer_test

import (
	"slices"
	"testing"

	"espalier/api"
	"espalier/infer"
	"espalier/norm"
	"espalier/parse"
)

// stranger stands in the spare room of lists, where no call has business.
const stranger = "stranger"

// roomy is a copy of a list, with a stranger in its spare room.
func roomy[T any](all []T, each func(T) T, last T) []T {
	more := make([]T, 0, len(all)+1)
	for _, x := range all {
		more = append(more, each(x))
	}
	return append(more, last)[:len(all)]
}

// apart is a tree that shares no list with another one, each list with spare room.
func apart(e api.Expr) api.Expr {
	e.Kids = roomy(e.Kids, apart, variable(stranger))
	return e
}

func apartParams(ps []api.Param) []api.Param {
	return roomy(ps, func(p api.Param) api.Param { return p }, api.Param{Name: stranger})
}

// apartModule is a query that shares no list with another one, each list with spare room.
func apartModule(m api.Module) api.Module {
	m.Globals = roomy(m.Globals, func(g api.Global) api.Global {
		g.Body = apart(g.Body)
		return g
	}, api.Global{Name: stranger})
	m.Funcs = roomy(m.Funcs, func(f api.Func) api.Func {
		f.Params, f.Body = apartParams(f.Params), apart(f.Body)
		return f
	}, api.Func{Name: stranger})
	m.Body = apart(m.Body)
	return m
}

// held tells whether two lists are the same, with their spare room.
func held[T any](a, b []T, same func(a, b T) bool) bool {
	return slices.EqualFunc(a[:cap(a)], b[:cap(b)], same)
}

// equal tells whether two trees are the same, with the spare room of their lists.
func equal(a, b api.Expr) bool {
	return a.Op == b.Op && a.Name == b.Name && a.At == b.At && a.Val == b.Val && a.Type == b.Type && a.Axis == b.Axis && a.Test == b.Test && a.Down == b.Down && held(a.Kids, b.Kids, equal)
}

func equalParams(a, b []api.Param) bool {
	return held(a, b, func(a, b api.Param) bool { return a == b })
}

// equalModule tells whether two queries are the same, with the spare room of their lists.
func equalModule(a, b api.Module) bool {
	return held(a.Globals, b.Globals, func(a, b api.Global) bool {
		return a.Name == b.Name && a.Type == b.Type && equal(a.Body, b.Body)
	}) && held(a.Funcs, b.Funcs, func(a, b api.Func) bool {
		return a.Name == b.Name && a.Result == b.Result && equalParams(a.Params, b.Params) && equal(a.Body, b.Body)
	}) && equal(a.Body, b.Body)
}

// clash is how the tests tell of one: no type is written so.
const clash = "!"

// empty is the type of no items.
var empty = api.SeqType{Item: api.NoItem, Occ: api.Star}

// found is what Expr answers, twice, of what it must leave as it is. Beside ErrType there is the empty type, and there is no other error.
func found(t *testing.T, m api.Module, vars []api.Param, e api.Expr) (api.SeqType, bool) {
	t.Helper()
	m, vars, e = apartModule(m), apartParams(vars), apart(e)
	wasM, wasVars, wasE := apartModule(m), apartParams(vars), apart(e)
	got, err := infer.Expr(m, vars, e)
	again, then := infer.Expr(m, vars, e)
	if again != got || then != err {
		t.Errorf("Expr: two answers, %v %v and %v %v", got, err, again, then)
	}
	if !equalModule(m, wasM) || !equalParams(vars, wasVars) || !equal(e, wasE) {
		t.Errorf("Expr changed what it was handed")
	}
	return holdAnswer(t, got, err)
}

// foundModule is what Module answers, held as found holds it.
func foundModule(t *testing.T, m api.Module) (api.SeqType, bool) {
	t.Helper()
	m = apartModule(m)
	was := apartModule(m)
	got, err := infer.Module(m)
	again, then := infer.Module(m)
	if again != got || then != err {
		t.Errorf("Module: two answers, %v %v and %v %v", got, err, again, then)
	}
	if !equalModule(m, was) {
		t.Errorf("Module changed what it was handed")
	}
	return holdAnswer(t, got, err)
}

// holdAnswer tells the type, and whether there is one.
func holdAnswer(t *testing.T, got api.SeqType, err api.Errno) (api.SeqType, bool) {
	t.Helper()
	switch {
	case err == api.ErrType && got != empty:
		t.Errorf("beside a clash the type %v", got)
	case err != api.OK && err != api.ErrType:
		t.Errorf("the error %v", err)
	}
	return got, err == api.OK
}

// typeText is a type as it stands in a query, or that there was a clash.
func typeText(ty api.SeqType, ok bool) string {
	if !ok {
		return clash
	}
	return parse.Type(ty)
}

// coreOf is the core of a query's text.
func coreOf(t *testing.T, s string) api.Module {
	t.Helper()
	m, e := parse.Parse(s)
	if e != api.OK {
		t.Fatalf("Parse(%q): %v", short(s), e)
	}
	core, e := norm.Core(m)
	if e != api.OK {
		t.Fatalf("Core(%q): %v", short(s), e)
	}
	return core
}

// hold holds Module of a query's text to a type that is told by its text, and Expr of its Body to the same, where there are no Globals that it could look at.
func hold(t *testing.T, s, want string) {
	t.Helper()
	m := coreOf(t, s)
	if got := typeText(foundModule(t, m)); got != want {
		t.Errorf("Module of %q: %s, not %s", short(s), got, want)
	}
	if len(m.Globals) == 0 && len(m.Funcs) == 0 {
		if got := typeText(found(t, m, nil, m.Body)); got != want {
			t.Errorf("Expr of %q: %s, not %s", short(s), got, want)
		}
	}
}

// typeOf is the type of a text.
func typeOf(t *testing.T, s string) api.SeqType {
	t.Helper()
	m, e := parse.Parse("1 treat as " + s)
	if e != api.OK {
		t.Fatalf("Parse of the type %q: %v", s, e)
	}
	return m.Body.Type
}

// short is as much of a text as can be told.
func short(s string) string {
	const most = 300
	if len(s) > most {
		return s[:most] + " .."
	}
	return s
}

func of(item api.ItemKind, occ api.Occ) api.SeqType { return api.SeqType{Item: item, Occ: occ} }

func expr(op api.Op, kids ...api.Expr) api.Expr { return api.Expr{Op: op, Kids: kids} }

func named(op api.Op, name string, kids ...api.Expr) api.Expr {
	return api.Expr{Op: op, Name: name, Kids: kids}
}

func typed(op api.Op, ty api.SeqType, kids ...api.Expr) api.Expr {
	return api.Expr{Op: op, Type: ty, Kids: kids}
}

func variable(name string) api.Expr { return api.Expr{Op: api.Var, Name: name} }

func literal(a api.Atom) api.Expr { return api.Expr{Op: api.Lit, Val: a} }

func number(n int) api.Expr { return literal(api.Atom{Kind: api.Int, N: n}) }

func str(s string) api.Expr { return literal(api.Atom{Kind: api.Str, S: s}) }
