package pure_test

import (
	"testing"

	"espalier/api"
)

func TestP161Size(t *testing.T) {
	for s, want := range map[string]int{
		"1":                                  1,
		"$x":                                 1,
		"()":                                 1,
		".":                                  1,
		"/":                                  1,
		"true()":                             1,
		"1 + 2":                              3,
		"1 + 2 * 3":                          5,
		"(1, 2, 3)":                          4,
		"((1, 2), 3)":                        5,
		"-1":                                 2,
		"count((1, 2))":                      4,
		"a":                                  3,
		"a/b":                                5,
		"a[1]":                               5,
		"a[1][2]/b":                          9,
		"$x[1]":                              3,
		"let $v := 1 return $v":              3,
		"for $v in (1, 2) return 3":          5,
		"for $v at $u in 1 where 2 return 3": 6,
		"for $v in 1 order by 2 return 3":    5,
		"some $v in 1 satisfies 2":           3,
		"if (1) then 2 else 3":               4,
		"1 cast as xs:string":                2,
		"1 instance of node()":               2,
		"typeswitch (1) case node() return 2 default return 3": 6,
		"<a/>":           2,
		"<a b='c'>d</a>": 7,
		"local:f()":      1,
		"local:h(1, 2)":  4,
		"string()":       2,
	} {
		e := coreOf(t, s)
		if got := sizeOf(t, e); got != want {
			t.Errorf("Size of %q: %d, not %d", s, got, want)
		}
		if got := sizeOf(t, e, number(1), e); got != 2*want+1 {
			t.Errorf("Size of %q, 1 and that: %d, not %d", s, got, 2*want+1)
		}
	}
}

// Each Kid counts, of whichever expression.
func TestP161SizeOfRows(t *testing.T) {
	for op := api.Op(-1); op <= api.Ops+1; op++ {
		for count := range 5 {
			e := named(op, "x")
			for i := range count {
				e.Kids = append(e.Kids, number(i))
			}
			if got := sizeOf(t, e); got != count+1 {
				t.Errorf("Size of %s: %d", show(e), got)
			}
			for i := range count {
				e.Kids[i] = expr(api.Add, number(1), expr(api.Seq))
			}
			if got := sizeOf(t, e, e); got != 2*(3*count+1) {
				t.Errorf("Size of %s: %d", show(e), got)
			}
		}
	}
}
