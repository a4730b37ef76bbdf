package norm_test

import (
	"fmt"
	"slices"
	"strings"
	"testing"

	"espalier/api"
	"espalier/scope"
)

// freeFront declares the names that the tests ask for.
const freeFront = "declare variable $u := 0; declare variable $v := 0; declare variable $w := 0; declare variable $x := 0; declare variable $y := 0; declare variable $z := 0; "

// holdFree holds the free names of what is read and of its core to these, with blanks between.
func holdFree(t *testing.T, s, want string) {
	t.Helper()
	m := read(t, freeFront+s)
	core := coreOf(t, freeFront+s)
	for what, got := range map[string][]string{"read": scope.Free(m.Body), "core": scope.Free(core.Body)} {
		if !slices.Equal(got, strings.Fields(want)) {
			t.Errorf("the free names of %q as %s: %q, not %q", short(s), what, got, want)
		}
	}
}

func TestP133Free(t *testing.T) {
	for s, want := range map[string]string{
		"1":                                      "",
		"$x":                                     "x",
		"$z, $x, $y":                             "z x y",
		"$x[$y]":                                 "x y",
		"a[$y]":                                  "y",
		"a[$y][$x]":                              "y x",
		"$y/a[$x]":                               "y x",
		"a[$z]/b[$y]/$x":                         "z y x",
		"xs:integer($x)":                         "x",
		"string($y), string()":                   "y",
		"concat($y, $x, $y)":                     "y x",
		"element {$y} {$x}":                      "y x",
		"element x {$y}":                         "y",
		"attribute {$y} {$x}, text {$z}":         "y x z",
		"<a b='{$y}x{$x}'>{$z}<c>{$w}</c></a>":   "y x z w",
		"<a>t{$y}</a>":                           "y",
		"for $x in 1 return $x":                  "",
		"for $x in $x return $x":                 "x",
		"for $x in $y return ($x, $z)":           "y z",
		"for $x at $y in ($x, $y) return $x":     "x y",
		"for $x at $y in 1 return ($y, $x, $z)":  "z",
		"let $x := $y return ($z, $x)":           "y z",
		"let $x := $x return $x":                 "x",
		"for $x in $y, $y in $x return ($x, $y)": "y",
		"for $x in 1, $y in ($x, $z) return ($y, $w)":                                      "z w",
		"let $y := $x for $x in $y let $z := ($x, $w) return ($z, $u)":                     "x w u",
		"for $x in $z where $x = $y return $w":                                             "z y w",
		"let $x := 1 where $y return $z":                                                   "y z",
		"for $x at $y in $w where ($y, $u) return ($x, $z)":                                "w u z",
		"for $x in $x where $x order by $x return $x":                                      "x",
		"for $x in $w order by $y return $z":                                               "w y z",
		"for $x in $w where $u order by $y return $z":                                      "w u y z",
		"for $x at $y in ($y, $x) where ($x, $y) order by ($x, $y) return ($x, $y)":        "y x",
		"for $x in 1 order by $z descending return ($z, $y)":                               "z y",
		"for $x in (for $y in $x order by $y return $z) where $y order by $w return $u":    "x z y w u",
		"(for $x in 1 return $x), $x":                                                      "x",
		"(let $x := $w return $x), $x, $w":                                                 "w x",
		"for $x in 1 return let $x := ($x, $y) return ($x, $z)":                            "y z",
		"let $x := 1, $x := ($x, $y), $x := ($x, $z) where ($x, $w) return $x":             "y z w",
		"for $x in 1 return (for $y at $x in $x return ($x, $y)), $y":                      "y",
		"some $x in $y satisfies ($x, $z)":                                                 "y z",
		"every $x in $x, $y in ($x, $w) satisfies ($x, $y, $z)":                            "x w z",
		"typeswitch ($x) case $y as node() return ($x, $y) default $x return ($x, $y, $z)": "x y z",
		"for $x in (let $y := $z return $y) return (some $z in ($x, $y) satisfies $z)":     "z y",
		"<a b='{for $x in $y return $x}'>{$x}{let $y := $z return $y}</a>":                 "y x z",
		"a[for $x in $y return $x]/b[$x]":                                                  "y x",
		"(for $x in 1 where $x return $x)[$x]":                                             "x",
		"count(for $x in $y order by $x return $z), $x":                                    "y z x",
	} {
		holdFree(t, s, want)
	}
}

// A variable in each place where one is asked for, bound and not.
func TestP133Places(t *testing.T) {
	for _, p := range allPlaces() {
		// What a place binds is called i, j and k.
		for _, r := range []struct{ text, want string }{{"$y, $x, $y", "y x"}, {"let $x := $y return ($x, $z)", "y z"}, {"for $x in $x where $y order by $x return ($z, $x)", "x y z"}, {"a[$w]", "w"}, {"<a b='{$u}'>{$v}</a>", "u v"}} {
			text := strings.ReplaceAll(p.text, "#", "("+r.text+")")
			m := coreOf(t, freeFront+strings.Replace(atFront, "declare variable $v := 0; ", "", 1)+text)
			if got := scope.Free(m.Body); strings.Join(got, " ") != r.want {
				t.Errorf("the free names of the core of %q: %q, not %q", text, got, r.want)
			}
		}
	}
}

// Of Globals and of functions, too.
func TestP133Parts(t *testing.T) {
	core := coreOf(t, "declare variable $g := 1; declare variable $h as node() := ($g, (for $h in $g where $h return $h)); declare variable $i as item() := let $j := ($h, $g) return $j; declare function local:f($b as xs:integer, $a) as xs:integer {for $c in $a where $b order by $c return $b}; declare function local:g($c) {<e a='{$c}'/>}; $h, $g")
	for i, want := range []string{"", "g", "h g"} {
		if got := strings.Join(scope.Free(core.Globals[i].Body), " "); got != want {
			t.Errorf("the free names of global %d: %q", i, got)
		}
	}
	for i, want := range []string{"a b", "c"} {
		if got := strings.Join(scope.Free(core.Funcs[i].Body), " "); got != want {
			t.Errorf("the free names of function %d: %q", i, got)
		}
	}
	if got := strings.Join(scope.Free(core.Body), " "); got != "h g" {
		t.Errorf("the free names of the body: %q", got)
	}
}

// All orders of the parts of a Flwor, each with a name of its own.
func TestP133Flwors(t *testing.T) {
	for count := range 4 {
		for _, kinds := range rowsOf("fal", count+1) {
			for _, end := range []string{"", "w"} {
				text, want := "", ""
				for i, kind := range kinds {
					// Each asks for a name of its own, and for the one that is bound ahead of it.
					ask := fmt.Sprintf("($f%d, $x)", i)
					want += fmt.Sprintf("f%d ", i)
					if i == 0 {
						want += "x "
					}
					text += map[rune]string{'f': "for $x in " + ask, 'a': "for $x at $p in " + ask, 'l': "let $x := " + ask}[kind] + " "
				}
				if end != "" {
					text, want = text+"where ($w, $x) ", want+"w "
				}
				text, want = text+"return ($x, $r)", want+"r"
				front := many(4, "declare variable $f# := 0; ") + "declare variable $x := 0; declare variable $w := 0; declare variable $r := 0; "
				if got := scope.Free(coreOf(t, front+text).Body); strings.Join(got, " ") != want {
					t.Errorf("the free names of the core of %q: %q, not %q", text, got, want)
				}
			}
		}
	}
}

// freeOf are the free names of a query's Body.
func freeOf(m api.Module) []string { return scope.Free(m.Body) }
