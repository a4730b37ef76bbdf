package pure_test

import (
	"testing"

	"espalier/api"
	"espalier/pure"
)

// at is an expression that binds two names.
func at(op api.Op, name, at string, kids ...api.Expr) api.Expr {
	return api.Expr{Op: op, Name: name, At: at, Kids: kids}
}

// kidsOf are so many variables of a name.
func kidsOf(name string, count int) []api.Expr {
	var es []api.Expr
	for range count {
		es = append(es, variable(name))
	}
	return es
}

// fiveAhead is a tree in whose first Kids 5 stands.
func fiveAhead(e api.Expr, count int) api.Expr {
	e = apart(e)
	for i := range count {
		e.Kids[i] = number(5)
	}
	return e
}

// What binds v: how many Kids it has, and how many of them are ahead of what it is bound in.
func TestP161Binders(t *testing.T) {
	for _, b := range []struct {
		e           api.Expr
		kids, ahead int
	}{
		{at(api.Let, "v", ""), 2, 1},
		{at(api.For, "v", ""), 2, 1},
		{at(api.For, "x", "v"), 2, 1},
		{at(api.For, "v", "x"), 2, 1},
		{at(api.For, "v", "v"), 2, 1},
		{at(api.Order, "v", ""), 4, 1},
		{at(api.Order, "x", "v"), 4, 1},
		{at(api.Order, "v", "x"), 4, 1},
		{at(api.Order, "v", "v"), 4, 1},
		{at(api.Some, "v", ""), 2, 1},
		{at(api.Every, "v", ""), 2, 1},
		{at(api.Case, "v", ""), 1, 0},
		{at(api.Case, "x", ""), 1, 1},
		{at(api.Case, "", ""), 1, 1},
		{at(api.Let, "x", ""), 2, 2},
		{at(api.For, "x", ""), 2, 2},
		{at(api.For, "x", "y"), 2, 2},
		{at(api.Order, "x", "y"), 4, 4},
		{at(api.Some, "x", ""), 2, 2},
		{at(api.Every, "x", ""), 2, 2},
	} {
		b.e.Kids = kidsOf("v", b.kids)
		holdUses(t, show(b.e), "v", b.e, b.ahead)
		for _, lit := range literals {
			holdPut(t, b.e, "v", lit, fives(fiveAhead(b.e, b.ahead), lit))
		}
		for _, name := range []string{"", "w", "vv", "V"} {
			holdUses(t, show(b.e), name, b.e, 0)
			holdPut(t, b.e, name, number(5), b.e)
		}
		// What it binds is bound in it alone.
		around := expr(api.Seq, variable("v"), b.e, variable("v"))
		holdUses(t, show(around), "v", around, b.ahead+2)
		// What is around it binds what it doesn't.
		inner := named(api.Let, "v", variable("v"), b.e)
		holdUses(t, show(inner), "v", inner, 1)
		holdPut(t, inner, "v", number(5), fiveAhead(inner, 1))
		ahead := named(api.Let, "v", b.e, variable("v"))
		holdUses(t, show(ahead), "v", ahead, b.ahead)
		holdPut(t, ahead, "v", number(5), named(api.Let, "v", fiveAhead(b.e, b.ahead), variable("v")))
	}
}

// What binds no name doesn't, whatever its Name is.
func TestP161NamesThatBindNothing(t *testing.T) {
	for _, row := range rows {
		switch row.op {
		case api.Var, api.For, api.Let, api.Order, api.Some, api.Every, api.Case:
			continue
		}
		for _, count := range row.kids {
			e := at(row.op, "v", "v", kidsOf("v", count)...)
			holdUses(t, show(e), "v", e, count)
			for _, lit := range literals {
				holdPut(t, e, "v", lit, fives(fiveAhead(e, count), lit))
			}
		}
	}
}

// A switch's cases: each binds its own name in what it returns, not in the others.
func TestP161Cases(t *testing.T) {
	caseOf := func(name string, returned api.Expr) api.Expr {
		return api.Expr{Op: api.Case, Name: name, Type: api.SeqType{Item: api.AnyItem, Occ: api.Star}, Kids: []api.Expr{returned}}
	}
	v, five := variable("v"), number(5)
	names := []string{"v", "x", ""}
	for _, one := range names {
		for _, two := range names {
			for _, three := range names {
				e := expr(api.Switch, v, caseOf(one, v), caseOf(two, expr(api.Seq, v, v)), caseOf(three, v))
				want, uses := expr(api.Switch, five, caseOf(one, v), caseOf(two, expr(api.Seq, v, v)), caseOf(three, v)), 1
				if one != "v" {
					want.Kids[1].Kids[0] = five
					uses++
				}
				if two != "v" {
					want.Kids[2].Kids[0] = expr(api.Seq, five, five)
					uses += 2
				}
				if three != "v" {
					want.Kids[3].Kids[0] = five
					uses++
				}
				holdUses(t, show(e), "v", e, uses)
				holdPut(t, e, "v", five, want)
			}
		}
	}
}

// A variable by itself, and a name that nothing has.
func TestP162Variable(t *testing.T) {
	for _, lit := range literals {
		holdPut(t, variable("v"), "v", lit, lit)
		holdPut(t, variable("v"), "x", lit, variable("v"))
		holdPut(t, variable("v"), "", lit, variable("v"))
		holdPut(t, lit, "v", lit, lit)
		holdPut(t, lit, "", lit, lit)
	}
	// No text has it, but its name is its name.
	holdUses(t, "no name", "", variable(""), 1)
	holdPut(t, variable(""), "", number(5), number(5))
	// An empty name is bound by nothing.
	for _, op := range []api.Op{api.Let, api.For, api.Order, api.Some, api.Every, api.Case} {
		e := at(op, "", "", kidsOf("", 2)...)
		holdUses(t, show(e), "", e, 2)
		holdPut(t, e, "", number(5), fiveAhead(e, 2))
	}
}

// Nothing of a variable that is replaced is left; all else is as it is.
func TestP162Fields(t *testing.T) {
	v := api.Expr{Op: api.Var, Name: "v", At: "a", Val: api.Atom{Kind: api.Str, S: "s"}, Type: api.SeqType{Item: api.ElemItem, Name: "e", Occ: api.Plus}, Axis: api.Parent, Test: api.Test{Kind: api.Named, Name: "t"}, Down: true}
	for _, lit := range literals {
		holdPut(t, v, "v", lit, lit)
		holdPut(t, expr(api.Seq, v, v), "v", lit, expr(api.Seq, lit, lit))
		holdPut(t, v, "x", lit, v)
		for _, row := range rows {
			if row.op == api.Var {
				continue
			}
			e := v
			e.Op, e.Name, e.Kids = row.op, "n", kidsOf("v", row.kids[0])
			e.At = ""
			holdPut(t, e, "v", lit, fives(fiveAhead(e, row.kids[0]), lit))
			holdPut(t, e, "x", lit, e)
		}
		// A Lit may have more to it than it says.
		more := lit
		more.Name, more.At, more.Type, more.Test, more.Axis, more.Down = "v", "v", v.Type, v.Test, v.Axis, true
		holdPut(t, expr(api.Seq, variable("v"), number(1)), "v", more, expr(api.Seq, more, number(1)))
	}
}

// Each use is one of its own: what is done to one is done to none of the others, nor to what was handed in.
func TestP162Memory(t *testing.T) {
	lit := number(5)
	lit.Kids = make([]api.Expr, 0, 4)
	e := expr(api.Seq, variable("v"), expr(api.Add, variable("v"), named(api.Let, "v", variable("v"), variable("v"))), expr(api.Seq), named(api.Let, "v", expr(api.Seq), expr(api.Seq, number(1))))
	for i := range e.Kids {
		e.Kids[i].Kids = append(make([]api.Expr, 0, 8), e.Kids[i].Kids...)
	}
	for _, name := range []string{"v", "x"} {
		got := putIn(t, e, name, lit)
		met := map[*api.Expr]int{}
		memory(met, e, lit, pure.Put(e, name, lit), pure.Put(e, name, lit), got)
		for _, count := range met {
			if count > 1 {
				t.Fatalf("Put for $%s: the answer lies where something else does", name)
			}
		}
	}
	for _, alone := range []api.Expr{lit, variable("v"), {Op: api.Seq, Kids: make([]api.Expr, 0, 3)}, {Op: api.Var, Name: "v", Kids: make([]api.Expr, 0, 3)}} {
		if got := pure.Put(alone, "v", lit); cap(got.Kids) > 0 {
			t.Errorf("an empty list of the answer has room: %s", show(alone))
		}
	}
}

// What isn't a Lit is put as a whole, too.
func TestP162NoLit(t *testing.T) {
	sum := expr(api.Add, number(1), variable("w"))
	e := expr(api.Seq, variable("v"), named(api.Let, "v", variable("v"), variable("v")))
	want := expr(api.Seq, sum, named(api.Let, "v", sum, variable("v")))
	if got := putIn(t, e, "v", sum); !same(got, want) {
		t.Errorf("a sum was put: %s", show(got))
	}
	if got := putIn(t, variable("v"), "v", api.Expr{}); !same(got, api.Expr{}) {
		t.Errorf("nothing was put: %s", show(got))
	}
}

// Put again and again, name after name, in whichever order.
func TestP163AllNames(t *testing.T) {
	for _, b := range binders {
		e := coreOf(t, filled(b.text, len(b.inside), func(int) string { return "($v, $x, $u, $y, $z, $f)" }))
		for _, names := range [][]string{{"v", "x", "u", "y", "z", "f"}, {"f", "z", "y", "u", "x", "v"}} {
			got := e
			for i, name := range names {
				next := putIn(t, got, name, number(i))
				holdBehind(t, got, name, next)
				got = next
			}
			for _, name := range names {
				holdUses(t, b.text, name, got, 0)
			}
			holdPut(t, got, "v", str("again"), got)
		}
	}
}
