package opt_test

import (
	"math/rand"
	"slices"
	"testing"

	"espalier/api"
	"espalier/node"
)

// stored is a store of a document with nodes of each kind, whose values are numbers.
func stored(t *testing.T) *node.Store {
	t.Helper()
	s, err := node.New(5000)
	if err != api.OK {
		t.Fatalf("New: %v", err)
	}
	three, five := api.Tree{Kind: api.Text, Value: "3"}, api.Tree{Kind: api.Text, Value: "5"}
	b := api.Tree{Kind: api.Elem, Name: "b", Attrs: []api.Pair{{Name: "a", Value: "2"}, {Name: "b", Value: "x"}}, Kids: []api.Tree{three, {Kind: api.Comment, Value: "4"}}}
	a := api.Tree{Kind: api.Elem, Name: "a", Attrs: []api.Pair{{Name: "a", Value: "1"}}, Kids: []api.Tree{b, five, {Kind: api.Elem, Name: "a"}, b}}
	if _, err := s.Build(api.Tree{Kind: api.Doc, Kids: []api.Tree{a}}); err != api.OK {
		t.Fatalf("Build: %v", err)
	}
	return s
}

// anywhere is any place: each variable bound or not, to some items, a focus or none.
func anywhere(r *rand.Rand, s *node.Store) place {
	item := func() api.Item {
		if r.Intn(2) == 0 {
			return api.Item{Node: 1 + r.Intn(s.Len())}
		}
		return api.Item{Atom: samples[r.Intn(len(samples))]}
	}
	var p place
	for _, name := range []string{"x", "y", "z"} {
		if r.Intn(5) == 0 {
			continue
		}
		var items []api.Item
		for range r.Intn(3) {
			items = append(items, item())
		}
		p = p.with(value{name, items})
	}
	if r.Intn(4) > 0 {
		p = p.focused(item(), 1+r.Intn(2), 2)
	}
	return p
}

// holdMeaning holds what comes of an expression to mean the same at some places; funcs are what is called, funcsBehind what is called by what comes. It tells how many places told an answer, and how many an error.
func holdMeaning(t *testing.T, r *rand.Rand, funcs, funcsBehind []api.Func, e, got api.Expr) (answers, errs int) {
	t.Helper()
	for range 4 {
		before, behind := stored(t), stored(t)
		p := anywhere(r, before)
		want, wantErr := meaningOf(before, funcs, p, e)
		items, err := meaningOf(behind, funcsBehind, p, got)
		switch {
		case isLimit(wantErr) || isLimit(err):
		case err != wantErr || !slices.Equal(items, want):
			t.Errorf("%s means %v, %v, but what comes of it, %s, %v, %v, at %+v", show(e), want, wantErr, show(got), items, err, p)
		case before.Len() != behind.Len():
			t.Errorf("%s makes %d nodes, but what comes of it, %s, %d", show(e), before.Len(), show(got), behind.Len())
		case err == api.OK:
			answers++
		default:
			errs++
		}
	}
	return answers, errs
}

// Expressions of all kinds one within another, with many Lits and Lets in them.
func TestP172Grown(t *testing.T) {
	t.Parallel()
	answers, errs, changed := 0, 0, 0
	for seed := range int64(10000) {
		g := &grower{Rand: rand.New(rand.NewSource(seed)), room: int(seed % 25), loose: 5}
		e := g.expr()
		got := simpler(t, api.Module{}, e)
		some, none := holdMeaning(t, g.Rand, nil, nil, e, got)
		answers, errs = answers+some, errs+none
		if !same(e, got) {
			changed++
		}
		if t.Failed() {
			t.Fatalf("seed %d", seed)
		}
	}
	if answers < 8000 || errs < 8000 || changed < 4000 {
		t.Errorf("%d answers, %d errors, %d changed", answers, errs, changed)
	}
}

// Expressions of Lits: each becomes its value, unless one in it means an error, and then it means the same.
func TestP173Grown(t *testing.T) {
	t.Parallel()
	folded, kept := 0, 0
	for seed := range int64(10000) {
		g := &grower{Rand: rand.New(rand.NewSource(seed)), room: int(seed % 12), loose: 5}
		e := g.plain()
		got := simpler(t, api.Module{}, e)
		if v, ok := judged(e); ok {
			folded++
			if !same(got, lit(v)) {
				t.Errorf("of %s comes %s, not %+v", show(e), show(got), v)
			}
		} else {
			kept++
		}
		holdMeaning(t, g.Rand, nil, nil, e, got)
		if t.Failed() {
			t.Fatalf("seed %d", seed)
		}
	}
	if folded < 2500 || kept < 2500 {
		t.Errorf("%d become Lits, %d don't", folded, kept)
	}
}

// meaningOfModule is what a query means.
func meaningOfModule(s *node.Store, p place, m api.Module) ([]api.Item, api.Errno) {
	for _, g := range m.Globals {
		items, err := meaningOf(s, m.Funcs, p, g.Body)
		if err != api.OK {
			return nil, err
		}
		p = p.with(value{g.Name, items})
	}
	return meaningOf(s, m.Funcs, p, m.Body)
}

func TestP172GrownModules(t *testing.T) {
	t.Parallel()
	answers, errs := 0, 0
	for seed := range int64(8000) {
		g := &grower{Rand: rand.New(rand.NewSource(seed)), loose: 1 << 30}
		m := g.module(int(seed % 10))
		got := simplerModule(t, m)
		before, behind := stored(t), stored(t)
		want, wantErr := meaningOfModule(before, place{}, m)
		items, err := meaningOfModule(behind, place{}, got)
		switch {
		case isLimit(wantErr) || isLimit(err):
		case err != wantErr || !slices.Equal(items, want):
			t.Errorf("a query of the Body %s means %v, %v, not %v, %v", show(m.Body), items, err, want, wantErr)
		case err == api.OK:
			answers++
		default:
			errs++
		}
		if t.Failed() {
			t.Fatalf("seed %d", seed)
		}
	}
	if answers < 1500 || errs < 1500 {
		t.Errorf("%d answers, %d errors", answers, errs)
	}
}

// One text each, of which some parts become simpler: what it means is told.
func TestP172Texts(t *testing.T) {
	r := rand.New(rand.NewSource(172))
	for _, s := range []string{
		"1 + 1 + $v", "let $n := 2 return for $m in (1, 2, 3) where $m ge $n order by 0 - $m return $m * $n", "let $n := 1 return (for $n in (2, 3) return $n, $n)", "for $n at $m in (5, 6) return let $m := $m + 1 let $k := 1 return $m * $k", "let $n := 1 div 0 return 2", "let $n := 0 return if ($n) then 1 div $n else 1 - $n", "(1, 2, 3)[1 + 1]", "let $n := 2 return (1, 2, 3)[$n]", "let $n := 2 return (1, 2, 3)[. eq $n]", "let $n := 'a' return element {$n} {$n, 1 + 1}", "let $n := 'c d' return element {$n} {}",
		"typeswitch (let $n := 1 return $n + 1) case $n as xs:integer return $n default return 0", "some $n in (1, 2) satisfies let $m := 2 return $n eq $m", "let $n := 1 return (every $n in () satisfies $n, $n)", "if (1 eq 1) then error() else 2", "if (1 eq 2) then error() else 2", "let $n := 1 return $n/a", "1 + 'a'", "'a' eq 1", "let $n := 1 eq 1 return ($n and 1 eq 2, $n or error())", "let $n := (1 eq 1) return not($n)", "-(2 - 5)", "let $n := 3 return -$n to $n",
	} {
		e := coreOf(t, s)
		got := simpler(t, api.Module{}, e)
		holdMeaning(t, r, nil, nil, e, got)
	}
}
