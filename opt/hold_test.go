package opt_test

import (
	"slices"
	"testing"

	"espalier/api"
	"espalier/infer"
	"espalier/norm"
	"espalier/opt"
	"espalier/scope"
	"espalier/types"
)

// stranger stands in the spare room of lists, where no call has business.
const stranger = "stranger"

// roomy is a copy of a list, with a stranger in its spare room.
func roomy[T any](all []T, each func(T) T, last T) []T {
	more := make([]T, 0, len(all)+1)
	for _, x := range all {
		more = append(more, each(x))
	}
	return append(more, last)[:len(all)]
}

// apart is a tree that shares no list with another one, each list with spare room.
func apart(e api.Expr) api.Expr {
	e.Kids = roomy(e.Kids, apart, variable(stranger))
	return e
}

// apartModule is a query that shares no list with another one, each list with spare room.
func apartModule(m api.Module) api.Module {
	m.Globals = roomy(m.Globals, func(g api.Global) api.Global {
		g.Body = apart(g.Body)
		return g
	}, api.Global{Name: stranger})
	m.Funcs = roomy(m.Funcs, func(f api.Func) api.Func {
		f.Params = roomy(f.Params, func(p api.Param) api.Param { return p }, api.Param{Name: stranger})
		f.Body = apart(f.Body)
		return f
	}, api.Func{Name: stranger})
	m.Body = apart(m.Body)
	return m
}

// alike tells whether two trees are the same but for their Kids.
func alike(a, b api.Expr) bool {
	return a.Op == b.Op && a.Name == b.Name && a.At == b.At && a.Val == b.Val && a.Type == b.Type && a.Axis == b.Axis && a.Test == b.Test && a.Down == b.Down
}

// same tells whether two trees are the same.
func same(a, b api.Expr) bool { return alike(a, b) && slices.EqualFunc(a.Kids, b.Kids, same) }

// entire is a list with its spare room.
func entire[T any](all []T) []T { return all[:cap(all)] }

// held tells whether two trees are the same, with the spare room of their lists.
func held(a, b api.Expr) bool {
	return alike(a, b) && len(a.Kids) == len(b.Kids) && slices.EqualFunc(entire(a.Kids), entire(b.Kids), held)
}

func heldFunc(a, b api.Func) bool {
	return a.Name == b.Name && a.Result == b.Result && len(a.Params) == len(b.Params) && slices.Equal(entire(a.Params), entire(b.Params)) && held(a.Body, b.Body)
}

func heldGlobal(a, b api.Global) bool {
	return a.Name == b.Name && a.Type == b.Type && held(a.Body, b.Body)
}

// heldModule tells whether two queries are the same, with the spare room of their lists.
func heldModule(a, b api.Module) bool {
	return len(a.Globals) == len(b.Globals) && slices.EqualFunc(entire(a.Globals), entire(b.Globals), heldGlobal) &&
		len(a.Funcs) == len(b.Funcs) && slices.EqualFunc(entire(a.Funcs), entire(b.Funcs), heldFunc) && held(a.Body, b.Body)
}

// memory counts how often each place in lists is met, spare room included.
type memory map[any]int

func (met memory) trees(es ...api.Expr) {
	for _, e := range es {
		for i := range entire(e.Kids) {
			met[&entire(e.Kids)[i]]++
		}
		met.trees(e.Kids...)
	}
}

func (met memory) module(m api.Module) {
	met.trees(m.Body)
	for i := range entire(m.Globals) {
		met[&entire(m.Globals)[i]]++
	}
	for _, g := range m.Globals {
		met.trees(g.Body)
	}
	for i := range entire(m.Funcs) {
		met[&entire(m.Funcs)[i]]++
	}
	for _, f := range m.Funcs {
		met.trees(f.Body)
		for i := range entire(f.Params) {
			met[&entire(f.Params)[i]]++
		}
	}
}

// shared tells whether a place was met more than once.
func (met memory) shared() bool {
	for _, count := range met {
		if count > 1 {
			return true
		}
	}
	return false
}

// simplerIn is what Expr answers, twice, of what must stay as it is; the answer lies nowhere else.
func simplerIn(t *testing.T, m api.Module, e api.Expr) api.Expr {
	t.Helper()
	m, e = apartModule(m), apart(e)
	wasM, wasE := apartModule(m), apart(e)
	got := opt.Expr(m, e)
	again := opt.Expr(m, e)
	if !same(got, again) {
		t.Errorf("Expr: two answers, %s and %s", show(got), show(again))
	}
	met := memory{}
	met.trees(e, got, again)
	met.module(m)
	if met.shared() {
		t.Errorf("Expr of %s: lists of the answer lie where others do", show(e))
	}
	if !heldModule(m, wasM) || !held(e, wasE) {
		t.Errorf("Expr of %s changed what it was handed", show(wasE))
	}
	return got
}

// simpler is what comes of a core, held to all that is promised of each but its meaning.
func simpler(t *testing.T, m api.Module, e api.Expr) api.Expr {
	t.Helper()
	got := simplerIn(t, m, e)
	holdShape(t, e, got)
	holdTypes(t, m, e, got)
	return got
}

// holdShape holds what comes of a core to be one, without Lets of Lits and what becomes Lits, and without free variables that weren't there.
func holdShape(t *testing.T, e, got api.Expr) {
	t.Helper()
	if !norm.IsCore(got) {
		t.Errorf("of %s comes no core: %s", show(e), show(got))
	}
	if bad, found := left(got); found {
		t.Errorf("of %s comes %s, in which this is left: %s", show(e), show(got), show(bad))
	}
	free := scope.Free(e)
	for _, name := range scope.Free(got) {
		if !slices.Contains(free, name) {
			t.Errorf("of %s comes %s, in which $%s is free", show(e), show(got), name)
		}
	}
	if v, ok := judged(e); ok && !same(got, lit(v)) {
		t.Errorf("of %s comes %s, not the value %+v", show(e), show(got), v)
	}
}

// left is an expression in a tree that no answer has: a Let of a Lit, or what becomes a Lit, the innermost of which has Lits as its Kids.
func left(e api.Expr) (api.Expr, bool) {
	lits := 0
	for _, kid := range e.Kids {
		if bad, found := left(kid); found {
			return bad, true
		}
		if kid.Op == api.Lit {
			lits++
		}
	}
	if e.Op == api.Let && e.Kids[0].Op == api.Lit {
		return e, true
	}
	if len(e.Kids) == 0 || lits < len(e.Kids) {
		return api.Expr{}, false
	}
	_, ok := judged(e)
	return e, ok
}

// holdTypes holds the type of what comes to lie in the type of what was, whatever is known of the variables, if neither clashes.
func holdTypes(t *testing.T, m api.Module, e, got api.Expr) {
	t.Helper()
	known := [][]api.Param{nil}
	for _, ty := range []api.SeqType{of(api.NoItem, api.Star), of(api.IntItem, api.One), of(api.StrItem, api.Opt), of(api.ElemItem, api.Plus)} {
		var vars []api.Param
		for _, name := range scope.Free(e) {
			vars = append(vars, api.Param{Name: name, Type: ty})
		}
		known = append(known, vars)
	}
	for _, vars := range known {
		was, clash := infer.Expr(m, vars, e)
		is, clashes := infer.Expr(m, vars, got)
		if clash == api.OK && clashes == api.OK && !types.Sub(is, was) {
			t.Errorf("of %s, of the type %v, comes %s, of the type %v, with %v", show(e), was, show(got), is, vars)
		}
	}
}

// hold holds what comes of a core to a tree.
func hold(t *testing.T, e, want api.Expr) {
	t.Helper()
	if got := simpler(t, api.Module{}, e); !same(got, want) {
		t.Errorf("of %s comes %s, not %s", show(e), show(got), show(want))
	}
}

// holdText holds what comes of the core of a text to the core of another one.
func holdText(t *testing.T, s, want string) {
	t.Helper()
	got, wanted := simpler(t, api.Module{}, coreOf(t, s)), coreOf(t, want)
	if !same(got, wanted) {
		t.Errorf("of %s comes %s, not %s", short(s), show(got), short(want))
	}
}

// simplerModule is what Module answers, twice, of what must stay as it is, held to what is promised of queries but their meaning.
func simplerModule(t *testing.T, m api.Module) api.Module {
	t.Helper()
	m = apartModule(m)
	was := apartModule(m)
	got := opt.Module(m)
	again := opt.Module(m)
	met := memory{}
	for _, x := range []api.Module{m, got, again} {
		met.module(x)
	}
	if met.shared() {
		t.Errorf("Module: lists of the answer lie where others do")
	}
	if !heldModule(m, was) {
		t.Errorf("Module changed what it was handed")
	}
	if !sameModule(got, again) {
		t.Errorf("Module: two answers")
	}
	if len(got.Globals) != len(m.Globals) || len(got.Funcs) != len(m.Funcs) {
		t.Fatalf("Module: %d Globals and %d Funcs of %d and %d", len(got.Globals), len(got.Funcs), len(m.Globals), len(m.Funcs))
	}
	for i, g := range m.Globals {
		if got.Globals[i].Name != g.Name || got.Globals[i].Type != g.Type {
			t.Errorf("Module: the Global $%s is now %+v", g.Name, got.Globals[i])
		}
		holdShape(t, g.Body, got.Globals[i].Body)
	}
	for i, f := range m.Funcs {
		if is := got.Funcs[i]; is.Name != f.Name || is.Result != f.Result || !slices.Equal(is.Params, f.Params) {
			t.Errorf("Module: the Func %s is now %+v", f.Name, is)
		}
		holdShape(t, f.Body, got.Funcs[i].Body)
	}
	holdShape(t, m.Body, got.Body)
	before, clash := infer.Module(m)
	behind, clashes := infer.Module(got)
	if clash == api.OK && clashes == api.OK && !types.Sub(behind, before) {
		t.Errorf("Module of the Body %s: the type %v, not in %v", show(m.Body), behind, before)
	}
	return got
}

func sameModule(a, b api.Module) bool {
	return slices.EqualFunc(a.Globals, b.Globals, func(a, b api.Global) bool {
		return a.Name == b.Name && a.Type == b.Type && same(a.Body, b.Body)
	}) && slices.EqualFunc(a.Funcs, b.Funcs, func(a, b api.Func) bool {
		return a.Name == b.Name && a.Result == b.Result && slices.Equal(a.Params, b.Params) && same(a.Body, b.Body)
	}) && same(a.Body, b.Body)
}
