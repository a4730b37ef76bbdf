package axis

import (
	"espalier/api"
	"espalier/node"
)

// place is a node to set out from. Its methods lead from one node to the next, by the numbers of the store alone: no list is made.
type place struct {
	s *node.Store
	n int
}

// inner is the next node behind m in the place's tree that is no attribute, 0 if there is none.
func (p place) inner(m int) int {
	for m++; m <= p.s.End(p.n); m++ {
		if p.s.Kind(m) != api.Attr {
			return m
		}
	}
	return 0
}

// attr is the attribute of the place behind m, which is the place or its attribute; 0 if there is none.
func (p place) attr(m int) int {
	// Behind a tree there may stand another one that is an attribute by itself.
	if m == p.s.End(p.n) || p.s.Kind(m+1) != api.Attr {
		return 0
	}
	return m + 1
}

// after is the next kid of m's parent, 0 if there is none or m is no kid.
func (p place) after(m int) int {
	next := p.s.End(m) + 1
	if p.s.Kind(m) == api.Attr || next > p.s.End(p.s.Parent(m)) {
		return 0
	}
	return next
}

// before is the kid of m's parent ahead of m, 0 if there is none or m is no kid.
func (p place) before(m int) int {
	parent := p.s.Parent(m)
	if parent == 0 {
		return 0
	}
	// Right ahead of m stands its parent, an attribute of that, or the last node of the tree that is asked for; of an attribute never the last.
	last := m - 1
	for last != parent && p.s.Parent(last) != parent {
		last = p.s.Parent(last)
	}
	if last == parent || p.s.Kind(last) == api.Attr {
		return 0
	}
	return last
}
