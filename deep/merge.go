package deep

import (
	"strings"

	"espalier/api"
)

// Merge is the trees in order, without empty Texts, Texts that are then side by side made one.
func Merge(ts ...api.Tree) []api.Tree {
	var ms []api.Tree
	for rest := full(ts); len(rest) > 0; {
		first := fresh(rest[0])
		n := texts(rest)
		if n > 0 {
			first.Value = values(rest[:n])
		}
		ms = append(ms, first)
		rest = rest[max(n, 1):]
	}
	return ms
}

// full is the row without the empty Texts.
func full(ts []api.Tree) []api.Tree {
	var kept []api.Tree
	for _, t := range ts {
		if t.Kind != api.Text || t.Value != "" {
			kept = append(kept, t)
		}
	}
	return kept
}

// texts is how many Texts the row begins with.
func texts(ts []api.Tree) int {
	n := 0
	for n < len(ts) && ts[n].Kind == api.Text {
		n++
	}
	return n
}

// values are the trees' Values, one behind the other.
func values(ts []api.Tree) string {
	var b strings.Builder
	for _, t := range ts {
		b.WriteString(t.Value)
	}
	return b.String()
}

// fresh is the tree in new memory: none of its lists is one of t's, nor are two of them one, where two of t's are.
func fresh(t api.Tree) api.Tree {
	t.Attrs = append([]api.Pair(nil), t.Attrs...)
	kids := t.Kids
	t.Kids = nil
	for _, k := range kids {
		t.Kids = append(t.Kids, fresh(k))
	}
	return t
}
