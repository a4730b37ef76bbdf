package infer_test

import (
	"testing"

	"espalier/api"
	"espalier/infer"
)

// holdJudged holds Expr of a core expression to what the judge says.
func holdJudged(t *testing.T, funcs []api.Func, vars []api.Param, e api.Expr) (api.SeqType, bool) {
	t.Helper()
	got, ok := found(t, api.Module{Funcs: funcs}, vars, e)
	if want, fine := judged(funcs, vars, e); got != want || ok != fine {
		t.Errorf("Expr of %s in %v: %s, not %s", show(e), vars, typeText(got, ok), typeText(want, fine))
	}
	return got, ok
}

// pairOps are what stands between two operands.
func pairOps() []api.Op {
	ops := []api.Op{api.Seq, api.Range, api.And, api.Or, api.Is, api.Before, api.After, api.Union, api.Inter, api.Except, api.Path, api.Filter}
	for op := api.Add; op <= api.Mod; op++ {
		ops = append(ops, op)
	}
	for op := api.VEq; op <= api.GGe; op++ {
		ops = append(ops, op)
	}
	return ops
}

// Of each kind beside each, with every Occ.
func TestP151AllPairs(t *testing.T) {
	t.Parallel()
	clashes := 0
	for _, a := range declared() {
		for _, b := range declared() {
			vars, es := operands(a, b)
			for _, op := range pairOps() {
				if _, ok := holdJudged(t, nil, vars, expr(op, es...)); !ok {
					clashes++
				}
			}
			for _, op := range []api.Op{api.For, api.Let, api.Some, api.Every} {
				holdJudged(t, nil, vars, named(op, "x", es...))
				holdJudged(t, nil, vars, named(op, "x", es[0], expr(api.Seq, es[1], variable("x"))))
			}
			holdJudged(t, nil, vars, named(api.Order, "x", es[0], number(1), number(1), es[1]))
			holdJudged(t, nil, vars, expr(api.If, number(1), es[0], es[1]))
			holdJudged(t, nil, vars, expr(api.Switch, es[0], typed(api.Case, b, number(1)), named(api.Case, "x", expr(api.Seq, es[1], variable("x")))))
			holdJudged(t, nil, vars, named(api.Call, "insert-before", es[0], number(1), es[1]))
		}
	}
	if clashes < 1000 {
		t.Errorf("only %d clashes", clashes)
	}
}

// Of each type alone.
func TestP151AllAlone(t *testing.T) {
	for _, a := range declared() {
		vars, es := operands(a)
		x := es[0]
		for _, op := range []api.Op{api.Neg, api.Seq, api.Instance, api.Castable, api.MakeText, api.MakeCom, api.MakeDoc, api.MakeElem, api.MakeAttr} {
			holdJudged(t, nil, vars, expr(op, x))
		}
		for _, e := range []api.Expr{
			expr(api.If, x, number(1), number(2)),
			expr(api.Seq, x, x, x),
			expr(api.Path, x, variable("nowhere")),
			expr(api.Path, expr(api.Dot), x),
			expr(api.Filter, expr(api.Filter, x, number(1)), number(2)),
			expr(api.Neg, expr(api.Filter, x, number(1))),
			expr(api.MakeElem, str("a"), x, x),
			expr(api.MakeAttr, str("b"), x, x),
			typed(api.Cast, of(api.IntItem, api.Opt), x),
			typed(api.Treat, of(api.StrItem, api.Plus), x),
			{Op: api.For, Name: "x", At: "p", Kids: []api.Expr{x, expr(api.Seq, variable("p"), variable("x"))}},
			{Op: api.Order, Name: "x", At: "p", Kids: []api.Expr{x, number(1), number(1), expr(api.Seq, variable("p"), variable("x"))}},
			{Op: api.Order, Name: "x", At: "p", Kids: []api.Expr{x, expr(api.Neg, variable("x")), expr(api.Neg, variable("p")), number(1)}},
			{Op: api.Order, Name: "x", At: "p", Kids: []api.Expr{x, expr(api.Neg, variable("p")), expr(api.Neg, variable("x")), number(1)}},
		} {
			holdJudged(t, nil, vars, e)
		}
		if got, ok := found(t, api.Module{}, vars, x); got != a || !ok {
			t.Errorf("a variable of the type %v: %v", a, got)
		}
	}
}

// Types of no items that a query can't declare are types of no items all the same.
func TestP151NoItemOfAnyCount(t *testing.T) {
	for occ := range api.Occ(api.Occs) {
		vars, es := operands(of(api.NoItem, occ), of(api.IntItem, api.One), of(api.StrItem, api.One))
		x, y, text := es[0], es[1], es[2]
		if got, err := infer.Expr(api.Module{}, vars, x); got != vars[0].Type || err != api.OK {
			t.Errorf("a variable of the type %v: %v", vars[0].Type, got)
		}
		for _, e := range []api.Expr{
			expr(api.Add, x, y), expr(api.Add, y, x), expr(api.Neg, x), expr(api.IDiv, x, x), expr(api.VEq, x, text), expr(api.VEq, y, x), expr(api.Is, x, y), expr(api.Before, y, x),
			expr(api.Seq, x), expr(api.Seq, x, x), expr(api.If, y, x, x), named(api.For, "x", x, y), named(api.For, "x", y, x), named(api.Order, "x", x, y, y, y), expr(api.Path, y, x), expr(api.Filter, x, y),
			named(api.Call, "reverse", x), named(api.Call, "distinct-values", x), named(api.Call, "insert-before", x, y, x), named(api.Call, "one-or-more", x), named(api.Call, "zero-or-one", x), named(api.Call, "exactly-one", x),
		} {
			if e.Op == api.Path {
				e.Kids[0] = variable("nowhere") // no clash, for it may be of nodes
			}
			if got, ok := found(t, api.Module{}, vars, e); got != empty || !ok {
				t.Errorf("%s with %v: %s", show(e), vars[0].Type, typeText(got, ok))
			}
		}
		if got, _ := found(t, api.Module{}, vars, named(api.Call, "data", x)); got.Item != api.NoItem {
			t.Errorf("data of %v: %v", vars[0].Type, got)
		}
		for e, want := range map[*api.Expr]api.SeqType{
			{Op: api.Seq, Kids: []api.Expr{x, y}}:                                      of(api.IntItem, api.One),
			{Op: api.If, Kids: []api.Expr{y, x, y}}:                                    of(api.IntItem, api.Opt),
			{Op: api.Path, Kids: []api.Expr{x, y}}:                                     of(api.IntItem, api.Star),
			{Op: api.Call, Name: "insert-before", Kids: []api.Expr{x, y, text}}:        of(api.StrItem, api.Star),
			{Op: api.For, Name: "x", Kids: []api.Expr{y, expr(api.Filter, y, x)}}:      of(api.IntItem, api.Opt),
			{Op: api.Some, Name: "x", Kids: []api.Expr{x, expr(api.Add, x, x)}}:        of(api.BoolItem, api.One),
			{Op: api.Let, Name: "x", Kids: []api.Expr{x, expr(api.Range, x, y)}}:       of(api.IntItem, api.Star),
			{Op: api.Call, Name: "sum", Kids: []api.Expr{x}}:                           of(api.AtomItem, api.One),
			{Op: api.GEq, Kids: []api.Expr{x, text}}:                                   of(api.BoolItem, api.One),
			{Op: api.Call, Name: "subsequence", Kids: []api.Expr{text, x, x}}:          of(api.StrItem, api.Star),
			{Op: api.MakeElem, Kids: []api.Expr{str("a"), expr(api.Path, x, x), text}}: {Item: api.ElemItem, Name: "a"},
		} {
			if got, ok := found(t, api.Module{}, vars, *e); got != want || !ok {
				t.Errorf("%s with %v: %s", show(*e), vars[0].Type, typeText(got, ok))
			}
		}
	}
}
