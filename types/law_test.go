package types_test

import (
	"slices"
	"testing"

	"espalier/api"
)

// matched tells, of each type, which of the rows match it.
func matched(t *testing.T, rs [][]rowOfItem) map[api.SeqType][]bool {
	t.Helper()
	s := stored(t)
	table := map[api.SeqType][]bool{}
	for _, ty := range all() {
		for _, r := range rs {
			table[ty.SeqType] = append(table[ty.SeqType], match(t, s, ty.SeqType, itemsOf(r)...))
		}
	}
	return table
}

// What matches a type matches another one just if it lies in that: rows of up to two items tell all types apart.
func TestP144SubIsMatch(t *testing.T) {
	t.Parallel()
	table := matched(t, rows(t))
	for _, a := range all() {
		for _, b := range all() {
			all := true
			for i, m := range table[a.SeqType] {
				all = all && (!m || table[b.SeqType][i])
			}
			if got := sub(t, a.SeqType, b.SeqType); got != all {
				t.Errorf("Sub of %v, %v: %v, but by what matches %v", a.SeqType, b.SeqType, got, all)
			}
		}
	}
}

func TestP144SubByAThird(t *testing.T) {
	t.Parallel()
	for _, a := range all() {
		if !sub(t, a.SeqType, a.SeqType) {
			t.Errorf("%v doesn't lie in itself", a.SeqType)
		}
		for _, b := range all() {
			if !sub(t, a.SeqType, b.SeqType) {
				continue
			}
			for _, c := range all() {
				if sub(t, b.SeqType, c.SeqType) && !sub(t, a.SeqType, c.SeqType) {
					t.Errorf("%v lies in %v, that in %v, but the first not in the third", a.SeqType, b.SeqType, c.SeqType)
				}
			}
		}
	}
}

// Each of several types lies in Either, and Either in each type in which all of them lie.
func TestP144EitherIsTheLeast(t *testing.T) {
	t.Parallel()
	for _, a := range all() {
		for _, b := range all() {
			e := either(t, a.SeqType, b.SeqType)
			for _, c := range all() {
				if got, want := sub(t, e, c.SeqType), sub(t, a.SeqType, c.SeqType) && sub(t, b.SeqType, c.SeqType); got != want {
					t.Errorf("Either of %v, %v: %v, in %v: %v", a.SeqType, b.SeqType, e, c.SeqType, got)
				}
			}
		}
	}
}

// shortRows are rows of up to two items, one of each shape.
func shortRows() [][]rowOfItem {
	var some []rowOfItem
	var seen shapes
	for _, x := range things() {
		if seen&x.is == 0 {
			some = append(some, x)
		}
		seen |= x.is
	}
	list := [][]rowOfItem{nil}
	for _, x := range some {
		list = append(list, []rowOfItem{x}, []rowOfItem{x, x}, []rowOfItem{x, some[0]}, []rowOfItem{some[len(some)/2], x})
	}
	return list
}

// What matches one of two types matches Either; a row of the one and a row of the other, one behind the other, match Join.
func TestP144RowsOfTwo(t *testing.T) {
	t.Parallel()
	s, rs := stored(t), shortRows()
	table := matched(t, rs)
	for _, a := range all() {
		for _, b := range all() {
			e, j := either(t, a.SeqType, b.SeqType), join(t, a.SeqType, b.SeqType)
			for i, r := range rs {
				if (table[a.SeqType][i] || table[b.SeqType][i]) && !match(t, s, e, itemsOf(r)...) {
					t.Errorf("Either of %v, %v: %v, not matched by %v", a.SeqType, b.SeqType, e, r)
				}
				for k, behind := range rs {
					if !table[a.SeqType][i] || !table[b.SeqType][k] {
						continue
					}
					if !match(t, s, j, itemsOf(slices.Concat(r, behind))...) {
						t.Errorf("Join of %v, %v: %v, not matched by %v, %v", a.SeqType, b.SeqType, j, r, behind)
					}
				}
			}
		}
	}
	holdStore(t, s)
}

// For each item of a row of the one a row of the other: all of them match Times.
func TestP144RowsOfTimes(t *testing.T) {
	t.Parallel()
	s, rs := stored(t), shortRows()
	table := matched(t, rs)
	for _, a := range all() {
		for _, b := range all() {
			x := times(t, a.SeqType, b.SeqType)
			for i, r := range rs {
				if !table[a.SeqType][i] {
					continue
				}
				for k, each := range rs {
					if table[b.SeqType][k] && !match(t, s, x, itemsOf(slices.Repeat(each, len(r)))...) {
						t.Errorf("Times of %v, %v: %v, not matched by %v for each of %v", a.SeqType, b.SeqType, x, each, r)
					}
				}
			}
		}
	}
}

// The same of four types, one behind the other.
func TestP144RowsOfSeveral(t *testing.T) {
	t.Parallel()
	s := stored(t)
	ts := all()
	for first := range ts {
		for gap := range ts {
			var four []api.SeqType
			var laid []rowOfItem
			for i := range 4 {
				ty := ts[(first+i*gap)%len(ts)]
				four = append(four, ty.SeqType)
				laid = append(laid, longest(ty)...)
			}
			if j := join(t, four...); !match(t, s, j, itemsOf(laid)...) {
				t.Errorf("Join of %v: %v, not matched by %v", four, j, laid)
			}
			e := either(t, four...)
			for i := range 4 {
				if r := longest(ts[(first+i*gap)%len(ts)]); !match(t, s, e, itemsOf(r)...) {
					t.Errorf("Either of %v: %v, not matched by %v", four, e, r)
				}
			}
		}
	}
}

// longest is a row that matches a type: of all that may stand in it once, of one the last that may.
func longest(ty typed) []rowOfItem {
	var r []rowOfItem
	for _, x := range things() {
		if x.is&ty.items != 0 {
			r = append(r, x)
		}
	}
	if len(r) > 0 && ty.counts&has(len(r)) == 0 {
		r = r[len(r)-1:]
	}
	return r
}
