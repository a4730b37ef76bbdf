package types_test

import (
	"testing"

	"espalier/api"
	"espalier/parse"
	"espalier/types"
)

// read is the type of a text.
func read(t *testing.T, s string) api.SeqType {
	t.Helper()
	m, e := parse.Parse("1 instance of " + s)
	if e != api.OK {
		t.Fatalf("%q is no type: %v", s, e)
	}
	return m.Body.Type
}

// sub is what Sub answers, twice.
func sub(t *testing.T, a, b api.SeqType) bool {
	t.Helper()
	got := types.Sub(a, b)
	if types.Sub(a, b) != got {
		t.Errorf("Sub: two answers of %v, %v", a, b)
	}
	return got
}

func TestP142SubOfAllPairs(t *testing.T) {
	for _, a := range all() {
		for _, b := range all() {
			if got, want := sub(t, a.SeqType, b.SeqType), judgedSub(a.meaning, b.meaning); got != want {
				t.Errorf("Sub of %v, %v: %v", a.SeqType, b.SeqType, got)
			}
		}
	}
}

func TestP142SubByHand(t *testing.T) {
	for _, c := range []struct {
		a, b string
		want bool
	}{
		{"xs:integer", "xs:decimal?", true},
		{"xs:decimal", "xs:integer", false},
		{"element(a)+", "node()*", true},
		{"element(a)", "element(a)", true},
		{"element(a)", "element(b)", false},
		{"element(a)", "element()", true},
		{"element()", "element(a)", false},
		{"element(a)", "attribute(a)", false},
		{"attribute(a)", "attribute()", true},
		{"attribute(a)", "element()", false},
		{"attribute()", "node()", true},
		{"document-node()", "element()", false},
		{"xs:integer", "xs:anyAtomicType", true},
		{"xs:decimal", "xs:anyAtomicType", true},
		{"xs:string", "xs:untypedAtomic", false},
		{"xs:boolean", "item()", true},
		{"xs:anyAtomicType", "item()", true},
		{"xs:anyAtomicType", "node()", false},
		{"xs:anyAtomicType", "xs:decimal", false},
		{"node()", "xs:anyAtomicType", false},
		{"node()", "text()", false},
		{"item()", "node()", false},
		{"item()", "item()", true},
		{"xs:string?", "xs:string", false},
		{"xs:string", "xs:string?", true},
		{"xs:string", "xs:string+", true},
		{"xs:string+", "xs:string", false},
		{"xs:string+", "xs:string?", false},
		{"xs:string?", "xs:string+", false},
		{"xs:string?", "xs:string*", true},
		{"xs:string+", "xs:string*", true},
		{"xs:string*", "xs:string+", false},
		{"xs:string*", "xs:string?", false},
		{"xs:integer+", "xs:integer?", false},
		{"empty-sequence()", "xs:string?", true},
		{"empty-sequence()", "element(a)*", true},
		{"empty-sequence()", "xs:string", false},
		{"empty-sequence()", "item()+", false},
		{"empty-sequence()", "empty-sequence()", true},
		{"xs:string?", "empty-sequence()", false},
		{"xs:string", "empty-sequence()", false},
		{"item()*", "empty-sequence()", false},
	} {
		if got := sub(t, read(t, c.a), read(t, c.b)); got != c.want {
			t.Errorf("Sub of %s, %s: %v", c.a, c.b, got)
		}
	}
}

// The count of a type without items is 0, whatever its Occ.
func TestP142SubOfNoItem(t *testing.T) {
	for a := range api.Occ(api.Occs) {
		for b := range api.Occ(api.Occs) {
			if !sub(t, of(api.NoItem, a), of(api.NoItem, b)) {
				t.Errorf("Sub of no items with Occ %d, %d: false", a, b)
			}
			for _, k := range kinds()[1:] {
				with := named(k.item, k.name, b)
				if got := sub(t, of(api.NoItem, a), with); got != (b == api.Opt || b == api.Star) {
					t.Errorf("Sub of no items with Occ %d in %v: %v", a, with, got)
				}
				if sub(t, with, of(api.NoItem, a)) {
					t.Errorf("Sub of %v in no items with Occ %d: true", with, a)
				}
			}
		}
	}
}
