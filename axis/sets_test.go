package axis

import (
	"math"
	"math/rand"
	"slices"
	"testing"
)

// rows are all lists of at most so many of these numbers.
func rows(most int, numbers ...int) [][]int {
	all := [][]int{nil}
	last := all
	for range most {
		var longer [][]int
		for _, row := range last {
			for _, n := range numbers {
				longer = append(longer, append(slices.Clone(row), n))
			}
		}
		all = append(all, longer...)
		last = longer
	}
	return all
}

// grown are rising numbers, each once, of these lists, taken where keep says so of a number's lists.
func grown(a, b []int, keep func(inA, inB bool) bool) []int {
	lists := map[int][2]bool{}
	for _, n := range a {
		lists[n] = [2]bool{true, lists[n][1]}
	}
	for _, n := range b {
		lists[n] = [2]bool{lists[n][0], true}
	}
	var ns []int
	for n, in := range lists {
		if keep(in[0], in[1]) {
			ns = append(ns, n)
		}
	}
	slices.Sort(ns)
	return ns
}

// hold holds all calls on sets against what was grown of two lists.
func hold(t *testing.T, a, b []int) {
	t.Helper()
	for name, c := range map[string]struct {
		call func(a, b []int) []int
		keep func(inA, inB bool) bool
	}{
		"Order":  {func(a, _ []int) []int { return Order(a...) }, func(inA, _ bool) bool { return inA }},
		"Union":  {Union, func(inA, inB bool) bool { return inA || inB }},
		"Inter":  {Inter, func(inA, inB bool) bool { return inA && inB }},
		"Except": {Except, func(inA, inB bool) bool { return inA && !inB }},
	} {
		if got, want := c.call(a, b), grown(a, b, c.keep); !slices.Equal(got, want) {
			t.Fatalf("%s of %v and %v: %v, not %v", name, a, b, got, want)
		}
	}
}

func TestP62ByHand(t *testing.T) {
	for i, c := range []struct{ got, want []int }{
		{Order(), nil},
		{Order([]int{}...), nil},
		{Order(3, 1, 3), []int{1, 3}},
		{Order(5, 4, 3, 2, 1), []int{1, 2, 3, 4, 5}},
		{Order(2, 2, 2), []int{2}},
		{Order(0, -1, 1, -1), []int{-1, 0, 1}},
		{Order(math.MaxInt, 0, math.MinInt, math.MaxInt), []int{math.MinInt, 0, math.MaxInt}},
		{Union([]int{3, 3, 2}, []int{4, 2, 1}), []int{1, 2, 3, 4}},
		{Union(nil, []int{2, 1, 2}), []int{1, 2}},
		{Union([]int{2, 1, 2}, nil), []int{1, 2}},
		{Inter([]int{3, 3, 2}, []int{4, 3, 2, 1, 3}), []int{2, 3}},
		{Inter(nil, []int{1}), nil},
		{Inter([]int{1}, nil), nil},
		{Except([]int{4, 3, 3, 2, 4}, []int{2, 1, 2}), []int{3, 4}},
		{Except([]int{2, 1, 2}, nil), []int{1, 2}},
		{Except(nil, []int{1}), nil},
		{Except([]int{1, 2}, []int{2, 1}), nil},
	} {
		if !slices.Equal(c.got, c.want) {
			t.Errorf("%d: %v, not %v", i, c.got, c.want)
		}
	}
}

func TestP62AllShortRows(t *testing.T) {
	all := rows(4, -1, 0, 1, 2)
	for _, a := range all {
		for _, b := range all[:100] {
			hold(t, a, b)
			hold(t, b, a)
		}
	}
	edges := rows(2, math.MinInt, math.MinInt+1, 0, math.MaxInt-1, math.MaxInt)
	for _, a := range edges {
		for _, b := range edges {
			hold(t, a, b)
		}
	}
}

func TestP62LongRows(t *testing.T) {
	r := rand.New(rand.NewSource(62))
	for range 300 {
		most := 1 + r.Intn(300)
		row := func() []int {
			var ns []int
			for range r.Intn(200) {
				ns = append(ns, r.Intn(most)-most/4)
			}
			return ns
		}
		hold(t, row(), row())
	}
}

// spare is a list with other numbers in its spare room.
func spare(ns ...int) []int {
	long := append(slices.Clone(ns), 5, 4, 3, 2, 1, 5, 4, 3)
	return long[:len(ns)]
}

// What is handed in, its spare room included, stays as it was: where two lists share it, too.
func TestP63WhatIsHandedIn(t *testing.T) {
	all := rows(3, 3, 1, 2)
	for _, x := range all {
		for _, y := range all {
			a, b := spare(x...), spare(y...)
			Order(a...)
			Union(a, b)
			Inter(a, b)
			Except(a, b)
			Union(a, a[:len(a)/2])
			if wantA, wantB := spare(x...), spare(y...); !slices.Equal(a[:cap(a)][:len(x)+8], wantA[:len(x)+8]) || !slices.Equal(b[:cap(b)][:len(y)+8], wantB[:len(y)+8]) {
				t.Fatalf("%v and %v were changed: %v, %v", x, y, a[:cap(a)], b[:cap(b)])
			}
		}
	}
}

func TestP63AnswersAreNew(t *testing.T) {
	for _, x := range rows(3, 3, 1, 2) {
		for _, y := range [][]int{nil, {}, {1}, {3, 2}, {1, 2, 3}, {9}} {
			for i, call := range []func(a, b []int) []int{func(a, _ []int) []int { return Order(a...) }, Union, Inter, Except} {
				a, b := spare(x...), spare(y...)
				first, second := call(a, b), call(a, b)
				kept := slices.Clone(second)
				spoil(first)
				if wantA, wantB := spare(x...), spare(y...); !slices.Equal(second, kept) || !slices.Equal(a[:len(x)+8], wantA[:len(x)+8]) || !slices.Equal(b[:len(y)+8], wantB[:len(y)+8]) {
					t.Fatalf("a written answer of the call %d of %v and %v changed what it doesn't own", i, x, y)
				}
				spoil(a)
				spoil(b)
				if !slices.Equal(second, kept) {
					t.Fatalf("written lists %v and %v changed the answer of the call %d", x, y, i)
				}
			}
		}
	}
}
