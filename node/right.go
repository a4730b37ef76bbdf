package node

import (
	"espalier/api"
	"espalier/char"
)

// Right tells whether each of the trees is right.
func Right(ts ...api.Tree) bool {
	for _, t := range ts {
		if !right(t, 0) {
			return false
		}
	}
	return true
}

// right tells whether a tree that lies in so many others is right.
func right(t api.Tree, others int) bool {
	if others > api.MaxNest {
		return false
	}
	switch t.Kind {
	case api.Doc:
		return t.Name == "" && t.Value == "" && len(t.Attrs) == 0 && kids(t.Kids, others+1)
	case api.Elem:
		return char.Name(t.Name) && t.Value == "" && pairs(t.Attrs) && kids(t.Kids, others+1)
	case api.Attr:
		return char.Name(t.Name) && char.Valid(t.Value) && leaf(t)
	case api.Text:
		return t.Name == "" && t.Value != "" && char.Valid(t.Value) && leaf(t)
	case api.Comment:
		return t.Name == "" && char.Valid(t.Value) && leaf(t)
	}
	return false
}

func leaf(t api.Tree) bool {
	return len(t.Attrs) == 0 && len(t.Kids) == 0
}

// kids tells whether these trees may be the kids of one, which lie in so many others.
func kids(ts []api.Tree, others int) bool {
	var last api.NodeKind
	for _, t := range ts {
		if t.Kind == api.Doc || t.Kind == api.Attr || t.Kind == api.Text && last == api.Text || !right(t, others) {
			return false
		}
		last = t.Kind
	}
	return true
}

// pairs tells whether these may be the attributes of one Elem.
func pairs(ps []api.Pair) bool {
	counts := make(map[string]int, len(ps))
	for _, p := range ps {
		counts[p.Name]++
		if counts[p.Name] > 1 || !char.Name(p.Name) || !char.Valid(p.Value) {
			return false
		}
	}
	return true
}
