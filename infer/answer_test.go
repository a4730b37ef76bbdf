package infer_test

import (
	"math/rand"
	"testing"

	"espalier/api"
	"espalier/node"
	"espalier/types"
)

// stored is a store of a document with nodes of each kind, of the names a and b, whose values are numbers, and a lone attribute.
func stored(t *testing.T) *node.Store {
	t.Helper()
	s, err := node.New(5000)
	if err != api.OK {
		t.Fatalf("New: %v", err)
	}
	text := func(v string) api.Tree { return api.Tree{Kind: api.Text, Value: v} }
	elem := func(name string, attrs []api.Pair, kids ...api.Tree) api.Tree {
		return api.Tree{Kind: api.Elem, Name: name, Attrs: attrs, Kids: kids}
	}
	b := elem("b", []api.Pair{{Name: "a", Value: "2"}, {Name: "b", Value: "x"}}, text("3"), api.Tree{Kind: api.Comment, Value: "4"})
	doc := api.Tree{Kind: api.Doc, Kids: []api.Tree{elem("a", []api.Pair{{Name: "a", Value: "1"}}, b, text("5"), elem("a", nil), elem("c", nil, b))}}
	for _, tree := range []api.Tree{doc, {Kind: api.Attr, Name: "b", Value: "7"}} {
		if _, err := s.Build(tree); err != api.OK {
			t.Fatalf("Build: %v", err)
		}
	}
	return s
}

// holdAnswers holds what an expression answers, if it does, to its type.
func holdAnswers(t *testing.T, m api.Module, vars []api.Param, p place, e api.Expr) (answered bool) {
	t.Helper()
	ty, ok := found(t, m, vars, e)
	s := stored(t)
	items, why := answerOf(s, m.Funcs, p, e)
	if why != "" {
		return false
	}
	if ok && !types.Match(s, ty, items...) {
		t.Errorf("%s, of the type %s, answers %v", show(e), typeText(ty, ok), items)
	}
	return ok
}

// Of literals, and of what they make.
func TestP152ByHand(t *testing.T) {
	for _, text := range []string{
		"1", "1.5", `"a"`, "()", "(1, 2)", "1 + 2", "1 + 1.5", "1 div 2", "7.5 idiv 2", "7.5 mod 2", "-1", "-1.5", "1 + ()", "-()", "1 eq 2.5", `"a" lt "b"`, "() eq 1", `1 = (1, "a")`, "1 and 0", "() or 1", "1 to 3", "3 to 1", "1 to ()",
		"if (1) then 2 else ()", "if (()) then 2 else ()", "for $x in (1, 2) return ($x, 2.5)", "for $x at $p in (2.5, 3.5) return $p", "for $x in () return 1", "for $x in (1, 2) return ()", "let $x := (1, 2) return $x", "for $x in (3, 1) order by $x return $x", "for $x in 3 where 0 order by $x return $x",
		"some $x in (1, 2) satisfies $x eq 2", "every $x in () satisfies 0", "(1, 2)[2]", "5[2]", "5[1]", "(1, 2.5)[. eq 1]", "1 instance of xs:decimal", `"1" cast as xs:integer`, "() cast as xs:integer?", `"x" castable as xs:integer`, "1 treat as xs:decimal", "xs:string(1)", "xs:decimal(())", "xs:untypedAtomic(1) + 1", "xs:untypedAtomic(1) idiv 1",
		"typeswitch (1) case $v as xs:decimal return $v default return 2", "typeswitch (()) case $v as xs:decimal return $v default $v return $v", `typeswitch ("a") case $v as xs:decimal return $v default $v return ($v, 1)`,
		"<a/>", "element b {}", `element {concat("a", "b")} {}`, "attribute a {1}", "text {1}", "text {()}", "comment {1}", "document {1}", "<a/>/..", "<a/>/self::a", "(<a/>, <b/>)", "<a/> | <a/>", "<a/>/1", "data(<a/>)", "data(comment {1})", "<a/> eq <b/>", "<a/> is <a/>", "() is <a/>", "comment {1} eq \"\"",
		"count((1, 2))", "empty(())", "string(())", "data((1, 2.5))", "abs(1)", "abs(())", "avg((1, 2))", "avg(())", "sum(())", "sum((1, 2.5))", "sum((), ())", "sum((), 1)", "max((1, 2.5))", "max(())", "distinct-values((1, 1, 2))", "reverse((1, 2))", "reverse(())", "subsequence((1, 2), 1)", "insert-before(1, 1, 2.5)", "insert-before((), 1, ())",
		"exactly-one(1)", "zero-or-one(())", "one-or-more((1, 2))", "root(<a/>)", "index-of((1, 2, 1), 1)", `compare("a", ())`, `string-to-codepoints("ab")`, "name(<a/>)", "true()", `concat("a", "b")`,
	} {
		m := coreOf(t, text)
		if !holdAnswers(t, m, nil, place{}, m.Body) {
			t.Errorf("no answer of %q", text)
		}
	}
}

// samples are sequences of which some match each type.
func samples(s *node.Store) [][]api.Item {
	all := [][]api.Item{nil}
	lits := atoms(api.Atom{Kind: api.Int, N: 1}, api.Atom{Kind: api.Int, N: 2}, api.Atom{Kind: api.Dec, N: 15, Scale: 1}, api.Atom{Kind: api.Str, S: "1"}, api.Atom{Kind: api.Bool, B: true}, api.Atom{Kind: api.Untyped, S: "1"})
	for n := 1; n <= s.Len(); n++ {
		lits = append(lits, api.Item{Node: n})
	}
	for _, x := range lits {
		all = append(all, []api.Item{x}, []api.Item{x, x})
		for _, y := range lits {
			all = append(all, []api.Item{x, y})
		}
	}
	return append(all, lits)
}

// sampled is any sequence of a type.
func sampled(r *rand.Rand, s *node.Store, all [][]api.Item, ty api.SeqType) []api.Item {
	for {
		if items := all[r.Intn(len(all))]; types.Match(s, ty, items...) {
			return items
		}
	}
}

func TestP152Grown(t *testing.T) {
	t.Parallel()
	answered := 0
	s := stored(t)
	all := samples(s)
	for seed := range int64(15000) {
		g := &grower{Rand: rand.New(rand.NewSource(seed))}
		var vars []api.Param
		var p place
		for range g.Intn(4) {
			v := api.Param{Name: g.name(), Type: g.declaredType()}
			vars, g.scope = append(vars, v), append(g.scope, v.Name)
			p = p.with(value{v.Name, sampled(g.Rand, s, all, v.Type)})
		}
		if g.Intn(4) > 0 {
			p = p.focused(sampled(g.Rand, s, all, of(api.AnyItem, api.One))[0], 1, 2)
		}
		g.room = int(seed % 15)
		if holdAnswers(t, api.Module{}, vars, p, g.expr()) {
			answered++
		}
		if t.Failed() {
			t.Fatalf("seed %d", seed)
		}
	}
	if answered < 5500 {
		t.Errorf("only %d answer", answered)
	}
}

// Of queries: what the Body answers, with the Globals as they answer, where a node is looked at.
func TestP152GrownModules(t *testing.T) {
	t.Parallel()
	answered := 0
	for seed := range int64(12000) {
		g := &grower{Rand: rand.New(rand.NewSource(seed))}
		m := g.module(int(seed % 8))
		ty, ok := foundModule(t, m)
		s := stored(t)
		p := place{}.focused(nodesOf(1 + g.Intn(s.Len()))[0], 1, 1)
		why := ""
		for _, x := range m.Globals {
			var items []api.Item
			if items, why = answerOf(s, m.Funcs, p, x.Body); why != "" {
				break
			}
			p = p.with(value{x.Name, items})
		}
		if why != "" {
			continue
		}
		items, why := answerOf(s, m.Funcs, p, m.Body)
		if why != "" || !ok {
			continue
		}
		answered++
		if !types.Match(s, ty, items...) {
			t.Fatalf("seed %d: a query of the Body %s, of the type %s, answers %v", seed, show(m.Body), typeText(ty, ok), items)
		}
	}
	if answered < 3000 {
		t.Errorf("only %d answer", answered)
	}
}

// A clash is told of nothing that could have had an answer, where it is all that there is to look at.
func TestP152ClashMeansNoAnswer(t *testing.T) {
	t.Parallel()
	s := stored(t)
	all := samples(s)
	r := rand.New(rand.NewSource(152))
	clashes := 0
	for _, a := range declared() {
		for _, b := range declared() {
			vars, es := operands(a, b)
			for _, op := range pairOps() {
				e := expr(op, es...)
				if _, ok := found(t, api.Module{}, vars, e); ok {
					continue
				}
				clashes++
				for range 3 {
					p := place{vars: []value{{es[0].Name, sampled(r, s, all, a)}, {es[1].Name, sampled(r, s, all, b)}}}
					if items, why := answerOf(s, nil, p, e); why == "" && len(p.vars[0].items) > 0 && len(p.vars[1].items) > 0 {
						t.Errorf("%s in %v clashes, and answers %v", show(e), p.vars, items)
					}
				}
			}
		}
	}
	if clashes < 1000 {
		t.Errorf("only %d clashes", clashes)
	}
}
