package scope_test

import (
	"fmt"
	"slices"
	"strings"
	"testing"

	"espalier/api"
	"espalier/parse"
	"espalier/scope"
)

// stranger stands in the spare room of lists, where no call has business.
const stranger = "stranger"

// roomy is a copy of a list, with a stranger in its spare room.
func roomy[T any](all []T, each func(T) T, last T) []T {
	more := make([]T, 0, len(all)+1)
	for _, x := range all {
		more = append(more, each(x))
	}
	return append(more, last)[:len(all)]
}

// apart is a tree that shares no list with another one, each list with spare room.
func apart(e api.Expr) api.Expr {
	e.Kids = roomy(e.Kids, apart, variable(stranger))
	return e
}

// apartModule is a query that shares no list with another one, each list with spare room.
func apartModule(m api.Module) api.Module {
	param := func(p api.Param) api.Param { return p }
	m.Globals = roomy(m.Globals, func(g api.Global) api.Global {
		g.Body = apart(g.Body)
		return g
	}, api.Global{Name: stranger})
	m.Funcs = roomy(m.Funcs, func(f api.Func) api.Func {
		f.Params, f.Body = roomy(f.Params, param, api.Param{Name: stranger}), apart(f.Body)
		return f
	}, api.Func{Name: stranger})
	m.Body = apart(m.Body)
	return m
}

// full is a list with its spare room.
func full[T any](all []T) []T { return all[:cap(all)] }

// equal tells whether two trees are the same, the spare room of their lists too.
func equal(a, b api.Expr) bool {
	return a.Op == b.Op && a.Name == b.Name && a.At == b.At && a.Val == b.Val && a.Type == b.Type && a.Axis == b.Axis && a.Test == b.Test && a.Down == b.Down && slices.EqualFunc(full(a.Kids), full(b.Kids), equal)
}

// equalModule tells whether two queries are the same, the spare room of their lists too.
func equalModule(a, b api.Module) bool {
	return slices.EqualFunc(full(a.Globals), full(b.Globals), func(a, b api.Global) bool {
		return a.Name == b.Name && a.Type == b.Type && equal(a.Body, b.Body)
	}) && slices.EqualFunc(full(a.Funcs), full(b.Funcs), func(a, b api.Func) bool {
		return a.Name == b.Name && a.Result == b.Result && slices.Equal(full(a.Params), full(b.Params)) && equal(a.Body, b.Body)
	}) && equal(a.Body, b.Body)
}

// checked is what Check answers, twice, of a query that it must leave as it is.
func checked(t *testing.T, m api.Module) api.Errno {
	t.Helper()
	m = apartModule(m)
	was := apartModule(m)
	got := scope.Check(m)
	if again := scope.Check(m); again != got {
		t.Errorf("Check: %v, and then %v", got, again)
	}
	if !equalModule(m, was) {
		t.Errorf("Check changed what it was handed")
	}
	return got
}

// freed is what Free answers, twice, of an expression that it must leave as it is.
func freed(t *testing.T, e api.Expr) []string {
	t.Helper()
	e = apart(e)
	was := apart(e)
	got := scope.Free(e)
	told := slices.Clone(got)
	again := scope.Free(e)
	if !slices.Equal(again, told) {
		t.Errorf("Free: %q, and then %q", told, again)
	}
	for i := range again {
		again[i] = stranger
	}
	if !slices.Equal(got, told) {
		t.Errorf("two answers of Free share a list")
	}
	if !equal(e, was) {
		t.Errorf("Free changed what it was handed")
	}
	return got
}

// short is as much of a text as can be told.
func short(s string) string {
	const most = 300
	if len(s) > most {
		return s[:most] + " .."
	}
	return s
}

// read is the tree of a text that must be a query.
func read(t *testing.T, s string) api.Module {
	t.Helper()
	m, e := parse.Parse(s)
	if e != api.OK {
		t.Fatalf("Parse(%q): %v", short(s), e)
	}
	return m
}

// hold holds Check of these texts to this answer.
func hold(t *testing.T, want api.Errno, texts ...string) {
	t.Helper()
	for _, s := range texts {
		if got := checked(t, read(t, s)); got != want {
			t.Errorf("Check(%q): %v, not %v", short(s), got, want)
		}
	}
}

// holdFree holds Free of what a text says to these names, with blanks between.
func holdFree(t *testing.T, s, want string) {
	t.Helper()
	holdNames(t, s, read(t, s).Body, strings.Fields(want))
}

// holdNames holds Free of an expression to these names; what tells where it is from.
func holdNames(t *testing.T, what string, e api.Expr, want []string) {
	t.Helper()
	got := freed(t, e)
	if !slices.Equal(got, want) {
		t.Errorf("Free(%q): %s, not %s", short(what), short(fmt.Sprint(got)), short(fmt.Sprint(want)))
	}
}

func expr(op api.Op, kids ...api.Expr) api.Expr { return api.Expr{Op: op, Kids: kids} }

func named(op api.Op, name string, kids ...api.Expr) api.Expr {
	return api.Expr{Op: op, Name: name, Kids: kids}
}

func variable(name string) api.Expr { return api.Expr{Op: api.Var, Name: name} }

func number(n int) api.Expr {
	return api.Expr{Op: api.Lit, Val: api.Atom{Kind: api.Int, N: n}}
}
