package scope_test

import (
	"slices"
	"testing"

	"espalier/api"
	"espalier/parse"
)

// Queries in which nothing is wrong, and such in which the first fault is known.
func TestP122Grown(t *testing.T) {
	g := newGrower(122)
	met, read := map[api.Errno]int{}, 0
	for i := range 6000 {
		g.room, g.wrong = i%80, []int{0, 5, 20, 80, 300}[i%5]
		m := g.module()
		want := api.OK
		if len(g.faults) > 0 {
			want = g.faults[0]
		}
		if got := checked(t, m); got != want {
			t.Fatalf("Check(%q): %v, not %v", parse.Print(m), got, want)
		}
		met[want]++
		if back, e := parse.Parse(parse.Print(m)); e == api.OK && equalModule(apartModule(back), apartModule(m)) {
			read++
		} else if e != api.ErrNest {
			t.Fatalf("%q isn't read as what it is: %v", parse.Print(m), e)
		}
	}
	for _, err := range []api.Errno{api.OK, api.ErrLong, api.ErrFunc, api.ErrRedo, api.ErrName, api.ErrSyntax} {
		if met[err] < 100 {
			t.Errorf("%v is the answer only %d times", err, met[err])
		}
	}
	if read < 5500 {
		t.Errorf("only %d queries are what Parse answers", read)
	}
}

// core is an expression as layer 13 would have it, as far as names are bound.
func core(e api.Expr) api.Expr {
	last := len(e.Kids) - 1
	kids := e.Kids
	e.Kids = nil
	if e.Op != api.Flwor {
		for _, kid := range kids {
			e.Kids = append(e.Kids, core(kid))
		}
		return e
	}
	if kids[last-1].Op == api.Order {
		loop, where := kids[0], number(1)
		if kids[1].Op == api.Where {
			where = core(kids[1].Kids[0])
		}
		return api.Expr{Op: api.Order, Name: loop.Name, At: loop.At, Kids: []api.Expr{core(loop.Kids[0]), where, core(kids[last-1].Kids[0]), core(kids[last])}}
	}
	rest := core(kids[last])
	for _, c := range slices.Backward(kids[:last]) {
		inner := core(c.Kids[0])
		if c.Op == api.Where {
			rest = expr(api.If, inner, rest, expr(api.Seq))
			continue
		}
		c.Kids = []api.Expr{inner, rest}
		rest = c
	}
	return rest
}

// What is free in an expression as it is read, and in its core.
func TestP123Grown(t *testing.T) {
	g := newGrower(123)
	most, cores := 0, 0
	for i := range 3000 {
		g.room, g.wrong = i%80, []int{2, 4, 8, 20}[i%4]
		m := g.module()
		for _, p := range g.parts {
			text := parse.Expr(p.e)
			holdNames(t, text, p.e, p.free)
			most = max(most, len(p.free))
			if !slices.Contains(g.faults, api.ErrSyntax) {
				holdNames(t, "the core of "+text, core(p.e), p.free)
				cores++
			}
		}
		if t.Failed() {
			t.Fatalf("of %q", parse.Print(m))
		}
	}
	if most < 5 || cores < 4000 {
		t.Errorf("at most %d names are free, %d cores are made", most, cores)
	}
}
