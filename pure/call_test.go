package pure_test

import (
	"fmt"
	"slices"
	"strings"
	"testing"

	"espalier/api"
)

// builtin are the functions that are there, with how many arguments each takes.
var builtin = []struct {
	names       string
	least, most int
}{
	{"count empty exists not boolean data codepoints-to-string string-to-codepoints avg max min abs floor ceiling round reverse distinct-values exactly-one zero-or-one one-or-more doc xs:integer xs:decimal xs:string xs:boolean xs:untypedAtomic", 1, 1},
	{"true false position last", 0, 0},
	{"string string-length normalize-space name root error", 0, 1},
	{"contains starts-with ends-with substring-before substring-after string-join compare index-of remove deep-equal", 2, 2},
	{"substring subsequence", 2, 3},
	{"sum", 1, 2},
	{"translate insert-before", 3, 3},
	{"concat", 2, 8},
}

// kinds are expressions that are told apart.
var kinds = []struct {
	e     api.Expr
	alone told
}{
	{number(1), plain},
	{expr(api.Add, number(1), number(2)), told{}},
	{expr(api.Dot), told{focus: true}},
	{expr(api.MakeText, number(1)), told{fresh: true}},
	{expr(api.MakeDoc, expr(api.Dot)), told{fresh: true, focus: true}},
}

// harmless are the functions whose Calls may be safe.
var harmless = []string{"count", "empty", "exists", "true", "false", "reverse", "data"}

// ofCall is what is told of a Call with safe Kids.
func ofCall(name string, isThere bool) told {
	return told{
		safe:  isThere && slices.Contains(harmless, name),
		fresh: !isThere,
		focus: name == "position" || name == "last",
	}
}

// holdCall holds a Call of so many Kids, each of which may be of any of which another thing is told.
func holdCall(t *testing.T, name string, count int, isThere bool) {
	t.Helper()
	e, itself := named(api.Call, name), ofCall(name, isThere)
	for range count {
		e.Kids = append(e.Kids, variable("x"))
	}
	holdTold(t, show(e), e, itself)
	for i := range e.Kids {
		for _, in := range kinds {
			e.Kids[i] = in.e
			if got := tell(t, e); got != around(itself, in.alone, false) {
				t.Errorf("%s: %+v", show(e), got)
			}
		}
		e.Kids[i] = variable("x")
	}
}

// Each function that is there, with each count of arguments.
func TestP161Calls(t *testing.T) {
	t.Parallel()
	functions := 0
	for _, b := range builtin {
		for _, name := range strings.Fields(b.names) {
			functions++
			for count := range 11 {
				holdCall(t, name, count, b.least <= count && count <= b.most)
			}
		}
	}
	if functions != 52 {
		t.Errorf("%d functions", functions)
	}
}

// Functions that are declared, and names that are nearly those of functions that are there.
func TestP161CallsOfOthers(t *testing.T) {
	t.Parallel()
	for _, name := range []string{"local:f", "local:count", "local:position", "local:last", "local:true", "f", "", "Count", "counts", "coun", "TRUE", "positions", "positio", "Last", "las", "fn:count", "fn:last", "fn:position", "xs:date", "xs:", "integer", "local:", "datas", "dat", "reverse ", " data", "\xff"} {
		for count := range 10 {
			holdCall(t, name, count, false)
		}
	}
}

// A Call lies in a Call, each of which is there or isn't.
func TestP161CallsOfCalls(t *testing.T) {
	t.Parallel()
	names := []string{"count", "true", "data", "string", "position", "last", "local:f", "concat", "error"}
	isThere := func(name string, count int) bool {
		for _, b := range builtin {
			if slices.Contains(strings.Fields(b.names), name) {
				return b.least <= count && count <= b.most
			}
		}
		return false
	}
	for _, outer := range names {
		for _, inner := range names {
			for count := range 4 {
				for kids := 1; kids < 4; kids++ {
					in := named(api.Call, inner, slices.Repeat([]api.Expr{number(1)}, count)...)
					e := named(api.Call, outer, slices.Repeat([]api.Expr{in}, kids)...)
					want := around(ofCall(outer, isThere(outer, kids)), ofCall(inner, isThere(inner, count)), false)
					holdTold(t, fmt.Sprint(show(e)), e, want)
				}
			}
		}
	}
}
