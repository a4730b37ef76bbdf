package infer_test

import (
	"math/rand"
	"testing"

	"espalier/api"
)

// Expressions of all kinds one within another, in scopes of all kinds, are typed as the judge types them.
func TestP151Grown(t *testing.T) {
	t.Parallel()
	fine, clashes := 0, 0
	kinds := map[api.ItemKind]int{}
	for seed := range int64(30000) {
		g := &grower{Rand: rand.New(rand.NewSource(seed)), loose: true}
		var vars []api.Param
		for range g.Intn(4) {
			v := api.Param{Name: g.name(), Type: g.declaredType()}
			vars, g.scope = append(vars, v), append(g.scope, v.Name)
		}
		g.funcs = []api.Func{{Name: "local:f", Params: []api.Param{{Type: g.declaredType()}}, Result: g.declaredType()}, {Name: "local:f", Result: g.declaredType()}}
		g.room = int(seed % 25)
		ty, ok := holdJudged(t, g.funcs, vars, g.expr())
		if t.Failed() {
			t.Fatalf("seed %d", seed)
		}
		kinds[ty.Item]++
		if ok {
			fine++
		} else {
			clashes++
		}
	}
	if fine < 10000 || clashes < 3000 || len(kinds) < api.ItemKinds {
		t.Errorf("%d are fine, %d clash, of %d kinds", fine, clashes, len(kinds))
	}
}

// judgedModule is a query's type, by the judge.
func judgedModule(m api.Module) (api.SeqType, bool) {
	var vars []api.Param
	fine := true
	for _, g := range m.Globals {
		_, ok := judged(m.Funcs, vars, g.Body)
		vars, fine = append(vars, api.Param{Name: g.Name, Type: g.Type}), fine && ok
	}
	for _, f := range m.Funcs {
		_, ok := judged(m.Funcs, f.Params, f.Body)
		fine = fine && ok
	}
	ty, ok := judged(m.Funcs, vars, m.Body)
	if !ok || !fine {
		return empty, false
	}
	return ty, true
}

func TestP151GrownModules(t *testing.T) {
	t.Parallel()
	fine, clashes := 0, 0
	for seed := range int64(10000) {
		g := &grower{Rand: rand.New(rand.NewSource(-seed)), loose: seed%2 == 0}
		m := g.module(int(seed % 12))
		got, ok := foundModule(t, m)
		if want, isFine := judgedModule(m); got != want || ok != isFine {
			t.Fatalf("seed %d: Module of a query of the Body %s: %s, not %s", seed, show(m.Body), typeText(got, ok), typeText(want, isFine))
		}
		if ok {
			fine++
		} else {
			clashes++
		}
	}
	if fine < 3000 || clashes < 1500 {
		t.Errorf("%d are fine, %d clash", fine, clashes)
	}
}
