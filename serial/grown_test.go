package serial_test

import (
	"math/rand"
	"slices"
	"strings"

	"espalier/api"
)

// grower makes trees.
type grower struct {
	*rand.Rand
	// How often, of a hundred, a part is made that has no form, and one that isn't right.
	formless, wrong int
}

func (g grower) pick(words ...string) string { return words[g.Intn(len(words))] }

func (g grower) odds(of100 int) bool { return g.Intn(100) < of100 }

// value is characters of which many have references, some in places where what stands beside them might count.
func (g grower) value(most int) string {
	s := ""
	for range g.Intn(most + 1) {
		s += g.pick("a", "1", " ", " ", "\t", "\n", "\r", "\r\n", "<", ">", "&", "'", "\"", "]", "]]>", "-", "--", "-->", ";", "#", "é", "\u0085", "\u2028", "\U0001F600", "&lt;", "&#13;", "<b/>", "<![CDATA[")
		if g.odds(g.wrong) {
			s += g.pick("\x00", "\xff", "\xc3", "\xe2\x82", "\ufffe", "\xc0\xbc")
		}
	}
	return s
}

func (g grower) name() string {
	if g.odds(g.wrong) {
		return g.pick("", "1", "a b", "<", "&", "\"", "\xff", "a\r", "a:b")
	}
	return g.pick("a", "b", "ab", "é-1.·", "_", "A--")
}

func (g grower) comment() api.Tree {
	v := g.value(6)
	if g.odds(g.formless) {
		return comment(v + g.pick("-", "--", "--x"))
	}
	if !g.odds(g.wrong) {
		v = strings.ReplaceAll(v, "\r", "")
	}
	for strings.Contains(v, "--") {
		v = strings.ReplaceAll(v, "--", "-")
	}
	return comment(strings.TrimSuffix(v, "-"))
}

// pairs are attributes, of names each but once, if they are to be right.
func (g grower) pairs() []api.Pair {
	var ps []api.Pair
	for _, name := range []string{"x", "y", "xx", "_1.-"} {
		if g.odds(g.wrong) {
			name = g.name()
		}
		if g.Intn(4) == 0 {
			ps = append(ps, api.Pair{Name: name, Value: g.value(6)})
		}
	}
	g.Shuffle(len(ps), func(i, j int) { ps[i], ps[j] = ps[j], ps[i] })
	return ps
}

// elem is an Elem that has its kids from kids.
func (g grower) elem(depth int) api.Tree {
	return api.Tree{Kind: api.Elem, Name: g.name(), Attrs: g.pairs(), Kids: g.kids(depth)}
}

// kids are the kids of an Elem: no Text beside a Text and none that is empty, if they are to be right.
func (g grower) kids(depth int) []api.Tree {
	var ts []api.Tree
	for range g.Intn(5) {
		if depth == 0 {
			break
		}
		k := g.kid(depth - 1)
		beside := k.Kind == api.Text && len(ts) > 0 && ts[len(ts)-1].Kind == api.Text
		if g.odds(g.wrong) || !beside && (k.Kind != api.Text || k.Value != "") {
			ts = append(ts, k)
		}
	}
	return ts
}

// kid is what may stand in an Elem, and what may not.
func (g grower) kid(depth int) api.Tree {
	switch {
	case g.odds(g.formless):
		return api.Tree{Kind: api.NodeKind([]int{-1, 0, 3, 6, 1 << 40}[g.Intn(5)]), Name: g.name(), Value: g.value(3), Attrs: g.pairs(), Kids: g.kids(depth)}
	case g.odds(g.wrong):
		// All the fields of every Kind are full.
		return api.Tree{Kind: api.NodeKind([]int{1, 2, 4, 5}[g.Intn(4)]), Name: g.name(), Value: g.pick("v", "<", "\"", ""), Attrs: g.pairs(), Kids: g.kids(depth)}
	}
	switch g.Intn(4) {
	case 0:
		return g.comment()
	case 1, 2:
		return text(g.value(8))
	}
	return g.elem(depth)
}

// document is a Doc of an Elem and of comments on both sides of it.
func (g grower) document(depth int) api.Tree {
	t := doc(g.elem(depth))
	for range g.Intn(3) {
		t.Kids = slices.Insert(t.Kids, g.Intn(2)*len(t.Kids), g.comment())
	}
	return t
}
