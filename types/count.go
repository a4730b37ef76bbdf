package types

import "espalier/api"

// many stands for two items and for any number above: no type tells these apart.
const many = 2

// count is how many items there may be.
type count struct {
	least, most int
}

// unseen is the count of nothing yet: beside another count it is as if it weren't there.
var unseen = count{least: many, most: 0}

// exactly is the count of so many items alone.
func exactly(n int) count {
	n = min(n, many)
	return count{n, n}
}

// countOf is how many items the type's sequences may have.
func countOf(t api.SeqType) count {
	if t.Item == api.NoItem {
		return exactly(0)
	}
	switch t.Occ {
	case api.One:
		return exactly(1)
	case api.Opt:
		return count{0, 1}
	case api.Plus:
		return count{1, many}
	}
	return count{0, many}
}

// occ is the least Occ that has all of the count.
func (c count) occ() api.Occ {
	switch {
	case c.most < many && c.least > 0:
		return api.One
	case c.most < many:
		return api.Opt
	case c.least > 0:
		return api.Plus
	}
	return api.Star
}

// liesIn tells whether the other count has all of a count.
func (c count) liesIn(other count) bool {
	return c.least >= other.least && c.most <= other.most
}

// or is the count of what has one of two counts.
func (c count) or(other count) count {
	return count{min(c.least, other.least), max(c.most, other.most)}
}

// plus is the count of two rows, one behind the other.
func (c count) plus(other count) count {
	return count{min(c.least+other.least, many), min(c.most+other.most, many)}
}

// times is the count of one row for each item of another.
func (c count) times(other count) count {
	return count{min(c.least*other.least, many), min(c.most*other.most, many)}
}
