package norm_test

import (
	"math/rand"
	"slices"
	"testing"

	"espalier/api"
	"espalier/parse"
	"espalier/scope"
)

// Queries that were made with their cores, most of which are what a text is read as.
func TestP131Grown(t *testing.T) {
	t.Parallel()
	g := &grower{Rand: rand.New(rand.NewSource(13))}
	wasRead := 0
	for i := range 8000 {
		m, want, free := g.module(i % 50)
		text := parse.Print(m)
		if back, e := parse.Parse(text); e == api.OK && equalModule(back, m, false) {
			wasRead++
		} else if e != api.ErrNest {
			t.Fatalf("%q isn't read as what it is: %v", text, e)
		}
		got, err := brought(t, m)
		if err != api.OK || !equalModule(got, want, false) {
			t.Fatalf("Core(%q): %v, %s, not %s", text, err, showModule(got), showModule(want))
		}
		holdGrownFree(t, text, got, free)
	}
	if wasRead < 6500 {
		t.Errorf("only %d queries are what Parse answers", wasRead)
	}
}

// holdGrownFree holds the free names of a core's parts to these.
func holdGrownFree(t *testing.T, text string, core api.Module, free [][]string) {
	t.Helper()
	var parts []api.Expr
	for _, g := range core.Globals {
		parts = append(parts, g.Body)
	}
	for _, f := range core.Funcs {
		parts = append(parts, f.Body)
	}
	for i, e := range append(parts, core.Body) {
		if got := scope.Free(e); !slices.Equal(got, free[i]) {
			t.Fatalf("the free names of part %d of a core: %q, not %q; %q", i, got, free[i], text)
		}
	}
}
