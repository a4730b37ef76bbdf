package node

import (
	"math"
	"math/rand"
	"reflect"
	"slices"
	"strings"
	"testing"

	"espalier/api"
)

func doc(kids ...api.Tree) api.Tree { return api.Tree{Kind: api.Doc, Kids: kids} }

func elem(name string, kids ...api.Tree) api.Tree {
	return api.Tree{Kind: api.Elem, Name: name, Kids: kids}
}

func attr(name, value string) api.Tree {
	return api.Tree{Kind: api.Attr, Name: name, Value: value}
}

func text(value string) api.Tree { return api.Tree{Kind: api.Text, Value: value} }

func comment(value string) api.Tree { return api.Tree{Kind: api.Comment, Value: value} }

// with is an Elem with these names and values as its attributes.
func with(t api.Tree, words ...string) api.Tree {
	t.Attrs = nil
	for i := 0; i < len(words); i += 2 {
		t.Attrs = append(t.Attrs, api.Pair{Name: words[i], Value: words[i+1]})
	}
	return t
}

// nested is the tree t in so many others, by turns with and without a Comment beside it.
func nested(t api.Tree, others int) api.Tree {
	for i := range others {
		if i%2 == 0 {
			t = elem("a", comment("c"), t)
		} else {
			t = elem("a", t)
		}
	}
	return t
}

// whole is a tree of every kind of node.
func whole() api.Tree {
	return doc(
		comment("first"),
		with(elem("a", text("t"), with(elem("b", text("u"), comment(""), text("v")), "z", "9"), text("é"), elem("c"), comment("w")), "x", "1", "y", ""),
		text("\t\n"),
		elem("_-.·é"),
	)
}

func store(t *testing.T, limit int, trees ...api.Tree) *Store {
	t.Helper()
	s, e := New(limit)
	if s == nil || e != api.OK {
		t.Fatalf("New(%d): %v, %v", limit, s, e)
	}
	for _, x := range trees {
		want := s.Len() + 1
		if n, e := s.Build(x); n != want || e != api.OK {
			t.Fatalf("Build of %v: %d, %v, not %d", x, n, e, want)
		}
	}
	return s
}

// seen is what a store tells of a node.
type seen struct {
	kind              api.NodeKind
	name, text        string
	typed             api.Atom
	parent, root, end int
	attrs, kids       []int
	tree              api.Tree
}

func look(s *Store, n int) seen {
	return seen{s.Kind(n), s.Name(n), s.String(n), s.Typed(n), s.Parent(n), s.Root(n), s.End(n), s.Attrs(n), s.Kids(n), s.Tree(n)}
}

// lookAll is what a store tells of all its numbers, and of some that are no node's.
func lookAll(s *Store) []seen {
	var all []seen
	for n := -2; n <= s.Len()+2; n++ {
		all = append(all, look(s, n))
	}
	return all
}

func same(a, b seen) bool { return reflect.DeepEqual(a, b) }

// words are the Values of the Texts in a tree.
func words(t api.Tree) string {
	if t.Kind == api.Text {
		return t.Value
	}
	s := ""
	for _, k := range t.Kids {
		s += words(k)
	}
	return s
}

// plain is the tree with nil for lists that are empty.
func plain(t api.Tree) api.Tree {
	p := api.Tree{Kind: t.Kind, Name: t.Name, Value: t.Value, Attrs: append([]api.Pair(nil), t.Attrs...)}
	for _, k := range t.Kids {
		p.Kids = append(p.Kids, plain(k))
	}
	return p
}

// expect is what a store tells of a tree's nodes, of which the first has the number n: worked out of the tree alone.
func expect(t api.Tree, n, parent, root int) []seen {
	me := seen{kind: t.Kind, name: t.Name, text: t.Value, parent: parent, root: root, tree: plain(t)}
	if t.Kind == api.Doc || t.Kind == api.Elem {
		me.text = words(t)
	}
	me.typed = api.Atom{Kind: api.Untyped, S: me.text}
	if t.Kind == api.Comment {
		me.typed.Kind = api.Str
	}
	var rest []seen
	for _, a := range t.Attrs {
		m := n + 1 + len(rest)
		me.attrs = append(me.attrs, m)
		rest = append(rest, expect(attr(a.Name, a.Value), m, n, root)...)
	}
	for _, k := range t.Kids {
		m := n + 1 + len(rest)
		me.kids = append(me.kids, m)
		rest = append(rest, expect(k, m, n, root)...)
	}
	me.end = n + len(rest)
	return append([]seen{me}, rest...)
}

// hold holds what a store tells against the trees that were built, in their order.
func hold(t *testing.T, s *Store, trees ...api.Tree) {
	t.Helper()
	want := []seen{{}, {}, {}}
	for _, x := range trees {
		n := len(want) - 2
		want = append(want, expect(x, n, 0, n)...)
	}
	want = append(want, seen{}, seen{})
	got := lookAll(s)
	if len(got) != len(want) {
		t.Fatalf("%d nodes, not %d, of %v", s.Len(), len(want)-5, trees)
	}
	for i := range want {
		if !same(got[i], want[i]) {
			t.Fatalf("the node %d of %v:\n%+v, not\n%+v", i-2, trees, got[i], want[i])
		}
	}
}

// grow is a tree of the kind, of chosen names and values; its kids lie at most so deep.
func grow(r *rand.Rand, kind api.NodeKind, deep int) api.Tree {
	names := []string{"a", "b", "_c", "É-1.·"}
	values := []string{"x", " ", "é\n", "<&\"'>", "]]>", "--"}
	t := api.Tree{Kind: kind}
	if kind == api.Elem || kind == api.Attr {
		t.Name = names[r.Intn(len(names))]
	}
	if kind > api.Elem {
		t.Value = values[r.Intn(len(values))]
		return t
	}
	if kind == api.Elem {
		for _, i := range r.Perm(len(names))[:r.Intn(len(names)+1)] {
			t.Attrs = append(t.Attrs, api.Pair{Name: names[i], Value: values[r.Intn(len(values))]})
		}
	}
	last := api.NodeKind(0)
	for range r.Intn(5) {
		k := []api.NodeKind{api.Elem, api.Elem, api.Text, api.Comment}[r.Intn(4)]
		if deep > 0 && (k != api.Text || last != api.Text) {
			t.Kids = append(t.Kids, grow(r, k, deep-1))
			last = k
		}
	}
	return t
}

// judge tells by the chapter's list, field by field, whether a tree is right, as the kid of one of another kind or (0) by itself.
func judge(t api.Tree, over api.NodeKind, others int) bool {
	may := map[api.NodeKind]struct{ name, value, attrs, kids, kid bool }{
		api.Doc:     {kids: true},
		api.Elem:    {name: true, attrs: true, kids: true, kid: true},
		api.Attr:    {name: true, value: true},
		api.Text:    {value: true, kid: true},
		api.Comment: {value: true, kid: true},
	}
	m, known := may[t.Kind]
	wrong := !known || over != 0 && !m.kid || others > 64
	wrong = wrong || m.name != (t.Name != "") || strings.HasPrefix(t.Name, "1")
	wrong = wrong || !m.value && t.Value != "" || strings.Contains(t.Value, "\x01") || t.Kind == api.Text && t.Value == ""
	wrong = wrong || !m.attrs && len(t.Attrs) > 0 || !m.kids && len(t.Kids) > 0
	for i, p := range t.Attrs {
		wrong = wrong || p.Name == "" || strings.HasPrefix(p.Name, "1") || strings.Contains(p.Value, "\x01")
		for _, q := range t.Attrs[:i] {
			wrong = wrong || p.Name == q.Name
		}
	}
	for i, k := range t.Kids {
		wrong = wrong || !judge(k, t.Kind, others+1) || i > 0 && k.Kind == api.Text && t.Kids[i-1].Kind == api.Text
	}
	return !wrong
}

// shapes are trees of every kind and of none with every field full, empty and wrong, and these kids.
func shapes(kids ...[]api.Tree) []api.Tree {
	pairs := [][]api.Pair{nil, {}, {{Name: "x", Value: "1"}}, {{Name: "x"}, {Name: "x"}}, {{Name: "x"}, {Name: "X"}}, {{Name: "x"}, {Name: "y"}, {Name: "x", Value: "1"}}, {{Name: ""}}, {{Name: "1"}}, {{Name: "x"}, {Name: "y", Value: "\x01"}}}
	var ts []api.Tree
	for kind := api.NodeKind(-1); kind <= api.Nodes; kind++ {
		for _, name := range []string{"", "a", "1"} {
			for _, value := range []string{"", "v", "\x01"} {
				for _, ps := range pairs {
					for _, ks := range kids {
						ts = append(ts, api.Tree{Kind: kind, Name: name, Value: value, Attrs: ps, Kids: ks})
					}
				}
			}
		}
	}
	return ts
}

func TestP51RightByTheList(t *testing.T) {
	ones := shapes(nil, []api.Tree{})
	var rows [][]api.Tree
	for _, x := range ones {
		rows = append(rows, []api.Tree{x})
	}
	for _, x := range []api.Tree{elem("e"), text("t"), comment("c"), doc(), attr("x", ""), {}, text("")} {
		for _, y := range []api.Tree{elem("e"), text("t"), comment("c"), doc(), attr("x", ""), {}, text("")} {
			rows = append(rows, []api.Tree{x, y}, []api.Tree{x, elem("e"), y}, []api.Tree{x, comment(""), y}, []api.Tree{text("t"), x, y})
		}
	}
	rights := 0
	for _, x := range append(ones, shapes(rows...)...) {
		want := judge(x, 0, 0)
		if Right(x) != want {
			t.Fatalf("Right(%+v): not %v", x, want)
		}
		if Right(elem("a", comment("c"), x)) != judge(x, api.Elem, 1) || Right(doc(elem("b", x))) != judge(x, api.Elem, 2) || Right(doc(x)) != judge(x, api.Doc, 1) {
			t.Fatalf("Right of %+v as a kid", x)
		}
		if want {
			rights++
		}
	}
	if rights < 50 {
		t.Errorf("only %d trees were right", rights)
	}
}

func TestP51RightWords(t *testing.T) {
	for _, x := range []api.Tree{whole(), doc(), elem("a"), attr("a", ""), attr("x", "\t\n\r é\U0010ffff"), text(" "), comment(""), doc(text("a"), comment(""), text("b"), elem("c"), text("d")), with(elem("a"), "x", "", "X", "", "xx", "")} {
		if !Right(x) {
			t.Errorf("Right(%v): false", x)
		}
	}
	for _, bad := range []string{"\x00", "\x01", "\ufffe", "a\xff", "\xed\xa0\x80", "\x1f"} {
		for _, x := range []api.Tree{attr("a", bad), text(bad), comment(bad), attr(bad, ""), elem(bad), with(elem("a"), "x", bad), with(elem("a"), "x", "", bad, ""), with(elem("a"), "x", bad, "y", "")} {
			if Right(x) || Right(elem("b", comment(""), x)) {
				t.Errorf("Right(%v): true", x)
			}
		}
	}
	for _, name := range []string{"", "1", "-a", ".", "a b", " a", "a:b", "·", "×", "\xff"} {
		if Right(elem(name)) || Right(attr(name, "")) || Right(with(elem("a"), name, "")) {
			t.Errorf("the name %q is right", name)
		}
	}
}

func TestP51RightOfSeveral(t *testing.T) {
	if !Right() || !Right(whole(), text("a"), text("b"), attr("x", ""), attr("x", "")) {
		t.Error("several right trees")
	}
	for i := range 3 {
		ts := []api.Tree{whole(), elem("a"), text("t")}
		ts[i] = text("")
		if Right(ts...) {
			t.Errorf("the tree %d is wrong", i)
		}
	}
}

func TestP51RightNested(t *testing.T) {
	for _, x := range []api.Tree{elem("a"), text("t"), comment(""), with(elem("a"), "x", "")} {
		if !Right(nested(x, 64)) || Right(nested(x, 65)) || Right(nested(x, 66)) || Right(nested(x, 2000)) {
			t.Errorf("%v in 64 others, and more", x)
		}
		if !Right(doc(nested(x, 63))) || Right(doc(nested(x, 64))) {
			t.Errorf("%v in a Doc", x)
		}
		s := store(t, 1000)
		if n, e := s.Build(nested(x, 65)); n != 0 || e != api.ErrArg || s.Len() != 0 {
			t.Errorf("Build of %v in 65 others: %d, %v", x, n, e)
		}
		hold(t, store(t, 1000, nested(x, 64), doc(nested(x, 63))), nested(x, 64), doc(nested(x, 63)))
	}
	if Right(nested(attr("x", ""), 64)) || Right(nested(text(""), 64)) {
		t.Error("wrong trees in 64 others")
	}
}

func TestP51New(t *testing.T) {
	for _, limit := range []int{0, -1, math.MinInt, api.MaxNodes + 1, math.MaxInt} {
		if s, e := New(limit); s != nil || e != api.ErrArg {
			t.Errorf("New(%d): %v, %v", limit, s, e)
		}
	}
	for _, limit := range []int{1, 2, 77, api.MaxNodes - 1, api.MaxNodes} {
		if s := store(t, limit); s.Len() != 0 || s.Room() != limit {
			t.Errorf("New(%d): %d nodes, room for %d", limit, s.Len(), s.Room())
		}
	}
}

func TestP51BuildWrong(t *testing.T) {
	for _, x := range shapes(nil, []api.Tree{text("t")}, []api.Tree{text("t"), text("u")}) {
		if judge(x, 0, 0) {
			continue
		}
		// Of two errors the first counts: this store is full.
		s := store(t, 1, text("t"))
		if n, e := s.Build(x); n != 0 || e != api.ErrArg {
			t.Fatalf("Build of %+v: %d, %v", x, n, e)
		}
		hold(t, s, text("t"))
	}
}

func TestP51BuildTooMany(t *testing.T) {
	x := whole()
	size := len(expect(x, 1, 0, 1))
	s := store(t, 2*size, x)
	before := lookAll(s)
	if n, e := s.Build(doc(x.Kids[0], x.Kids[1], x.Kids[2], x.Kids[3], comment("one too many"))); n != 0 || e != api.ErrNodes {
		t.Errorf("one node too many: %d, %v", n, e)
	}
	if s.Len() != size || s.Room() != size || !reflect.DeepEqual(lookAll(s), before) {
		t.Error("a tree too great changed the store")
	}
	if n, e := s.Build(x); n != size+1 || e != api.OK || s.Room() != 0 {
		t.Errorf("a store just full: %d, %v, room for %d", n, e, s.Room())
	}
	for _, y := range []api.Tree{doc(), elem("a"), attr("x", ""), text("t"), comment("")} {
		if n, e := s.Build(y); n != 0 || e != api.ErrNodes || s.Len() != 2*size || s.Room() != 0 {
			t.Errorf("Build of %v into a full store: %d, %v", y, n, e)
		}
	}
	hold(t, s, x, x)
}

func TestP51BuildCountsAll(t *testing.T) {
	for _, x := range []api.Tree{doc(), text("t"), with(elem("a"), "x", "", "y", ""), elem("a", text("t"), comment("")), whole(), nested(elem("a"), 64)} {
		size := len(expect(x, 1, 0, 1))
		hold(t, store(t, size, x), x)
		if size == 1 {
			continue
		}
		s := store(t, size-1)
		if n, e := s.Build(x); n != 0 || e != api.ErrNodes || s.Len() != 0 || s.Room() != size-1 {
			t.Errorf("%v in a store of %d: %d, %v", x, size-1, n, e)
		}
	}
}

func TestP51BuildMost(t *testing.T) {
	wide := doc(slices.Repeat([]api.Tree{elem("a")}, api.MaxNodes-1)...)
	s := store(t, api.MaxNodes, wide)
	if s.Len() != api.MaxNodes || s.Room() != 0 || s.End(1) != api.MaxNodes || len(s.Kids(1)) != api.MaxNodes-1 || s.Parent(api.MaxNodes) != 1 || s.Kind(api.MaxNodes+1) != 0 {
		t.Error("a store of the most nodes")
	}
	s = store(t, api.MaxNodes)
	wide.Kids = append(wide.Kids, elem("a"))
	if n, e := s.Build(wide); n != 0 || e != api.ErrNodes || s.Len() != 0 || s.Room() != api.MaxNodes {
		t.Errorf("one more than the most nodes: %d, %v", n, e)
	}
}

func TestP52Examples(t *testing.T) {
	s := store(t, 4, with(elem("a", text("t"), elem("b")), "x", "1"))
	if s.Kind(1) != api.Elem || s.Kind(2) != api.Attr || s.Kind(3) != api.Text || s.Kind(4) != api.Elem || s.Name(4) != "b" {
		t.Error("the nodes")
	}
	if s.End(1) != 4 || s.String(1) != "t" || s.Parent(2) != 1 {
		t.Error("End, String, Parent")
	}
	if Right(with(elem("a"), "x", "", "x", "")) {
		t.Error("two attributes x")
	}
}

func TestP52NoNode(t *testing.T) {
	for _, s := range []*Store{store(t, 9), store(t, 99, whole(), text("t"))} {
		for _, n := range []int{0, -1, -2, -s.Len(), s.Len() + 1, s.Len() + 2, math.MaxInt, math.MaxInt - 1, math.MinInt, math.MinInt + 1} {
			if x := look(s, n); !same(x, seen{}) {
				t.Errorf("of %d, which is no node, in a store of %d: %+v", n, s.Len(), x)
			}
		}
	}
}

func TestP52Whole(t *testing.T) {
	s := store(t, 100, whole())
	want := []struct {
		name              string
		parent, end, root int
		text              string
		attrs, kids       []int
	}{
		{"", 0, 16, 1, "tuvé\t\n", nil, []int{2, 3, 15, 16}},
		{"", 1, 2, 1, "first", nil, nil},
		{"a", 1, 14, 1, "tuvé", []int{4, 5}, []int{6, 7, 12, 13, 14}},
		{"x", 3, 4, 1, "1", nil, nil},
		{"y", 3, 5, 1, "", nil, nil},
		{"", 3, 6, 1, "t", nil, nil},
		{"b", 3, 11, 1, "uv", []int{8}, []int{9, 10, 11}},
		{"z", 7, 8, 1, "9", nil, nil},
		{"", 7, 9, 1, "u", nil, nil},
		{"", 7, 10, 1, "", nil, nil},
		{"", 7, 11, 1, "v", nil, nil},
		{"", 3, 12, 1, "é", nil, nil},
		{"c", 3, 13, 1, "", nil, nil},
		{"", 3, 14, 1, "w", nil, nil},
		{"", 1, 15, 1, "\t\n", nil, nil},
		{"_-.·é", 1, 16, 1, "", nil, nil},
	}
	for i, w := range want {
		n := i + 1
		if s.Name(n) != w.name || s.Parent(n) != w.parent || s.End(n) != w.end || s.Root(n) != w.root || s.String(n) != w.text || !slices.Equal(s.Attrs(n), w.attrs) || !slices.Equal(s.Kids(n), w.kids) {
			t.Errorf("the node %d: %+v", n, look(s, n))
		}
	}
	if s.Len() != len(want) || s.Room() != 100-len(want) {
		t.Errorf("%d nodes, room for %d", s.Len(), s.Room())
	}
	hold(t, s, whole())
}

func TestP52Typed(t *testing.T) {
	s := store(t, 99, elem("a", text("1"), comment("2")), attr("x", "3"), comment(""), doc(), text("4"), doc(text("5")))
	untyped := func(v string) api.Atom { return api.Atom{Kind: api.Untyped, S: v} }
	for n, want := range []api.Atom{{}, untyped("1"), untyped("1"), {Kind: api.Str, S: "2"}, untyped("3"), {Kind: api.Str}, untyped(""), untyped("4"), untyped("5"), untyped("5"), {}} {
		if got := s.Typed(n); got != want {
			t.Errorf("Typed(%d): %v, not %v", n, got, want)
		}
	}
}

// A tree's last node and the next tree's first one stand side by side and are nothing to each other.
func TestP52TreesBesideTrees(t *testing.T) {
	firsts := []api.Tree{doc(), elem("a"), with(elem("a"), "x", "1"), attr("x", "1"), text("t"), comment("c"), doc(elem("a", text("t"))), whole()}
	for _, x := range firsts {
		for _, y := range firsts {
			hold(t, store(t, 99, x, y, x), x, y, x)
		}
	}
}

func TestP53ThereAndBack(t *testing.T) {
	r := rand.New(rand.NewSource(5))
	for range 400 {
		var trees []api.Tree
		s := store(t, 100000)
		for range 1 + r.Intn(4) {
			x := grow(r, api.NodeKind(1+r.Intn(5)), r.Intn(5))
			n, e := s.Build(x)
			if e != api.OK || !reflect.DeepEqual(s.Tree(n), plain(x)) {
				t.Fatalf("Build of %v: %d, %v", x, n, e)
			}
			trees = append(trees, x)
		}
		hold(t, s, trees...)
		// What a store tells of any node is a right tree: built anew it is told again.
		for n := range s.Len() {
			x := s.Tree(n + 1)
			if !Right(x) {
				t.Fatalf("the tree %v isn't right", x)
			}
			hold(t, store(t, 100000, x), x)
		}
	}
}

func TestP53NothingChanges(t *testing.T) {
	s := store(t, 1000, whole())
	before := lookAll(s)[:s.Len()+3]
	for range 20 {
		if _, e := s.Build(s.Tree(1)); e != api.OK {
			t.Fatal(e)
		}
		s.Build(text(""))
		if after := lookAll(s); !reflect.DeepEqual(after[:len(before)], before) {
			t.Fatal("a tree more changed those ahead of it")
		}
	}
}

// spoil writes over all that a list or a tree holds, its spare room too.
func spoil(t *api.Tree) {
	t.Kids, t.Attrs = t.Kids[:cap(t.Kids)], t.Attrs[:cap(t.Attrs)]
	for i := range t.Kids {
		spoil(&t.Kids[i])
	}
	for i := range t.Attrs {
		t.Attrs[i] = api.Pair{Name: "spoilt", Value: "spoilt"}
	}
	*t = api.Tree{Kind: api.Comment, Value: "spoilt"}
}

func TestP53AnswersAreNew(t *testing.T) {
	s := store(t, 100, whole())
	for n := range s.Len() + 2 {
		x := s.Tree(n)
		spoil(&x)
		for _, ns := range [][]int{s.Kids(n), s.Attrs(n)} {
			ns = ns[:cap(ns)]
			for i := range ns {
				ns[i] = 77
			}
		}
	}
	hold(t, s, whole())
	x := s.Tree(1)
	y := x.Kids[1]
	x.Kids = append(x.Kids[:1:cap(x.Kids)], text("new"), text("new"), text("new"), text("new"))
	y.Kids = append(y.Kids[:1:cap(y.Kids)], text("new"), text("new"), text("new"), text("new"))
	if !reflect.DeepEqual(y.Kids[1].Kids, []api.Tree(nil)) || y.Attrs[0].Name != "x" {
		t.Error("lists of one answer share memory")
	}
	hold(t, s, whole())
}

func TestP53WhatIsHandedIn(t *testing.T) {
	x := whole()
	spare := append(make([]api.Tree, 0, 9), x.Kids...)
	spare[:9][8] = text("spare")
	x.Kids = spare
	s := store(t, 100, x)
	if !Right(x) || !reflect.DeepEqual(plain(x), plain(whole())) || !reflect.DeepEqual(spare[:9][8], text("spare")) || spare[:9][4].Kind != 0 {
		t.Error("Build changed its tree")
	}
	spoil(&x)
	hold(t, s, whole())

	ts := []api.Tree{whole(), text(""), whole()}
	Right(ts[:2]...)
	if !reflect.DeepEqual(ts, []api.Tree{whole(), text(""), whole()}) {
		t.Error("Right changed its trees")
	}
}

// One part in several places is a part of each.
func TestP53SharedParts(t *testing.T) {
	part := with(elem("p", text("t")), "x", "1")
	x := elem("a", part, part, elem("b", part, part))
	hold(t, store(t, 99, x, part), x, part)
}
