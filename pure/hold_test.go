package pure_test

import (
	"slices"
	"testing"

	"espalier/api"
	"espalier/norm"
	"espalier/parse"
	"espalier/pure"
	"espalier/scope"
)

// stranger stands in the spare room of lists, where no call has business.
const stranger = "stranger"

// apart is a tree that shares no list with another one, each list with a stranger in its spare room.
func apart(e api.Expr) api.Expr {
	e.Kids = append(apartAll(e.Kids), variable(stranger))[:len(e.Kids)]
	return e
}

func apartAll(es []api.Expr) []api.Expr {
	more := make([]api.Expr, 0, len(es)+1)
	for _, e := range es {
		more = append(more, apart(e))
	}
	return more
}

// alike tells whether two trees are the same but for their Kids.
func alike(a, b api.Expr) bool {
	return a.Op == b.Op && a.Name == b.Name && a.At == b.At && a.Val == b.Val && a.Type == b.Type && a.Axis == b.Axis && a.Test == b.Test && a.Down == b.Down
}

// same tells whether two trees are the same.
func same(a, b api.Expr) bool { return alike(a, b) && slices.EqualFunc(a.Kids, b.Kids, same) }

// held tells whether two trees are the same, with the spare room of their lists.
func held(a, b api.Expr) bool {
	return alike(a, b) && len(a.Kids) == len(b.Kids) && slices.EqualFunc(a.Kids[:cap(a.Kids)], b.Kids[:cap(b.Kids)], held)
}

// memory counts how often each place in the lists of some trees is met, spare room included.
func memory(met map[*api.Expr]int, es ...api.Expr) {
	for _, e := range es {
		for i := range e.Kids[:cap(e.Kids)] {
			met[&e.Kids[:cap(e.Kids)][i]]++
		}
		memory(met, e.Kids...)
	}
}

// told is what is told of an expression.
type told struct{ safe, fresh, focus bool }

// plain is what is told of 1.
var plain = told{safe: true}

// tell is what the package tells of expressions, twice, which it must leave as they are.
func tell(t *testing.T, es ...api.Expr) told {
	t.Helper()
	in := api.Expr{Kids: es}
	in = apart(in)
	was := apart(in)
	got := told{pure.Safe(in.Kids...), pure.Fresh(in.Kids...), pure.Focus(in.Kids...)}
	if again := (told{pure.Safe(in.Kids...), pure.Fresh(in.Kids...), pure.Focus(in.Kids...)}); again != got {
		t.Errorf("two answers, %v and %v", got, again)
	}
	if !held(in, was) {
		t.Errorf("what is handed in was changed")
	}
	return got
}

// holdTold holds what is told of one expression, and of that among others.
func holdTold(t *testing.T, what string, e api.Expr, want told) {
	t.Helper()
	if got := tell(t, e); got != want {
		t.Errorf("%s: %+v, not %+v", what, got, want)
	}
	for _, es := range [][]api.Expr{{e, e}, {e, number(1)}, {number(1), e}, {variable("x"), e, number(1)}} {
		if got := tell(t, es...); got != want {
			t.Errorf("%s among others: %+v, not %+v", what, got, want)
		}
	}
}

// usesOf is how many uses there are, asked twice, of what must stay as it is.
func usesOf(t *testing.T, name string, es ...api.Expr) int {
	t.Helper()
	in := apart(api.Expr{Kids: es})
	was := apart(in)
	got := pure.Uses(name, in.Kids...)
	if again := pure.Uses(name, in.Kids...); again != got {
		t.Errorf("two numbers of uses, %d and %d", got, again)
	}
	if !held(in, was) {
		t.Errorf("Uses changed what it was handed")
	}
	return got
}

// sizeOf is the size of expressions, asked as usesOf asks.
func sizeOf(t *testing.T, es ...api.Expr) int {
	t.Helper()
	in := apart(api.Expr{Kids: es})
	was := apart(in)
	got := pure.Size(in.Kids...)
	if again := pure.Size(in.Kids...); again != got {
		t.Errorf("two sizes, %d and %d", got, again)
	}
	if !held(in, was) {
		t.Errorf("Size changed what it was handed")
	}
	return got
}

// putIn is what Put answers, twice, of what must stay as it is; the answer lies nowhere else.
func putIn(t *testing.T, e api.Expr, name string, lit api.Expr) api.Expr {
	t.Helper()
	e, lit = apart(e), apart(lit)
	wasE, wasLit := apart(e), apart(lit)
	got := pure.Put(e, name, lit)
	again := pure.Put(e, name, lit)
	if !same(got, again) {
		t.Errorf("Put: two answers, %s and %s", show(got), show(again))
	}
	met := map[*api.Expr]int{}
	memory(met, e, lit, got, again)
	for _, count := range met {
		if count > 1 {
			t.Errorf("Put of %s: lists of the answer lie where others do", show(e))
			break
		}
	}
	if !held(e, wasE) || !held(lit, wasLit) {
		t.Errorf("Put changed what it was handed")
	}
	return got
}

// holdPut holds Put to an answer and to P16.3.
func holdPut(t *testing.T, e api.Expr, name string, lit, want api.Expr) {
	t.Helper()
	got := putIn(t, e, name, lit)
	if !same(got, want) {
		t.Errorf("Put of %s for $%s in %s: %s, not %s", show(lit), name, show(e), show(got), show(want))
	}
	holdBehind(t, e, name, got)
}

// holdBehind holds what comes of Put of a Lit to P16.3.
func holdBehind(t *testing.T, e api.Expr, name string, got api.Expr) {
	t.Helper()
	if pure.Uses(name, e) == 0 && !same(got, e) {
		t.Errorf("Put without uses changed %s: %s", show(e), show(got))
	}
	if count := pure.Uses(name, got); count != 0 {
		t.Errorf("behind Put in %s there are %d uses of %s", show(e), count, name)
	}
	if pure.Size(got) != pure.Size(e) {
		t.Errorf("behind Put in %s there are %d expressions, not %d", show(e), pure.Size(got), pure.Size(e))
	}
	left := slices.DeleteFunc(scope.Free(e), func(free string) bool { return free == name })
	if free := scope.Free(got); !slices.Equal(free, left) {
		t.Errorf("behind Put in %s these are free: %v, not %v", show(e), free, left)
	}
}

// coreOf is the core of a query's text, in which some variables and functions are there.
func coreOf(t *testing.T, s string) api.Expr {
	t.Helper()
	front := "declare function local:f() {1}; declare function local:g($a) {$a}; declare function local:count($a) {$a}; declare function local:h($a as xs:string, $b) {$b}; "
	for _, name := range []string{"x", "y", "z", "v", "u", "f"} {
		front += "declare variable $" + name + " := 1; "
	}
	m, e := parse.Parse(front + s)
	if e != api.OK {
		t.Fatalf("Parse(%q): %v", s, e)
	}
	core, e := norm.Core(m)
	if e != api.OK {
		t.Fatalf("Core(%q): %v", s, e)
	}
	return core.Body
}

// read is the tree of a text as it is read.
func read(t *testing.T, s string) api.Expr {
	t.Helper()
	m, e := parse.Parse(s)
	if e != api.OK {
		t.Fatalf("Parse(%q): %v", s, e)
	}
	return m.Body
}

func expr(op api.Op, kids ...api.Expr) api.Expr { return api.Expr{Op: op, Kids: kids} }

func named(op api.Op, name string, kids ...api.Expr) api.Expr {
	return api.Expr{Op: op, Name: name, Kids: kids}
}

func variable(name string) api.Expr { return api.Expr{Op: api.Var, Name: name} }

func literal(a api.Atom) api.Expr { return api.Expr{Op: api.Lit, Val: a} }

func number(n int) api.Expr { return literal(api.Atom{Kind: api.Int, N: n}) }

func str(s string) api.Expr { return literal(api.Atom{Kind: api.Str, S: s}) }

func step() api.Expr {
	return api.Expr{Op: api.Step, Axis: api.Child, Test: api.Test{Kind: api.Named, Name: "a"}}
}

// path is a path from the focus.
func path() api.Expr { return expr(api.Path, expr(api.Dot), step()) }

// literals are Lits of each kind of value.
var literals = []api.Expr{
	number(5), number(0), number(-1),
	literal(api.Atom{Kind: api.Dec, N: 25, Scale: 1}),
	str("s"), str(""), str("$v"),
	literal(api.Atom{Kind: api.Bool, B: true}), literal(api.Atom{Kind: api.Bool}),
	literal(api.Atom{Kind: api.Untyped, S: "u"}),
}
