package axis

import (
	"iter"
	"math"
	"math/rand"
	"reflect"
	"slices"
	"testing"

	"espalier/api"
	"espalier/node"
)

var axes = []api.Axis{api.Child, api.Descendant, api.Attribute, api.Self, api.DescSelf, api.Following, api.Parent, api.Ancestor, api.Preceding, api.AncSelf}

// noAxes are axes that are none.
var noAxes = []api.Axis{0, -1, api.Axes, api.Axes + 1, 77, math.MaxInt, math.MinInt}

func doc(kids ...api.Tree) api.Tree { return api.Tree{Kind: api.Doc, Kids: kids} }

func elem(name string, kids ...api.Tree) api.Tree {
	return api.Tree{Kind: api.Elem, Name: name, Kids: kids}
}

func attr(name string) api.Tree { return api.Tree{Kind: api.Attr, Name: name, Value: "1"} }

func text(value string) api.Tree { return api.Tree{Kind: api.Text, Value: value} }

func comment(value string) api.Tree { return api.Tree{Kind: api.Comment, Value: value} }

// with is an Elem with attributes of these names.
func with(t api.Tree, names ...string) api.Tree {
	t.Attrs = nil
	for _, name := range names {
		t.Attrs = append(t.Attrs, api.Pair{Name: name, Value: "1"})
	}
	return t
}

// whole is a tree of every kind of node. Its numbers: 1 the Doc, 2 a Comment, 3 a, 4 @x, 5 @y, 6 a Text, 7 b, 8 @z, 9 a Text, 10 c, 11 @a, 12 a Comment, 13 d, 14 a Text.
func whole() api.Tree {
	return doc(
		comment("k"),
		with(elem("a", text("t"), with(elem("b", text("u"), with(elem("c"), "a")), "z"), comment("a"), elem("d")), "x", "y"),
		text("v"),
	)
}

// nested is the tree t in so many Elems, by turns alone, between two others, and with an attribute.
func nested(t api.Tree, others int) api.Tree {
	for i := range others {
		switch i % 3 {
		case 0:
			t = elem("a", t)
		case 1:
			t = elem("b", comment("c"), t, elem("a"))
		default:
			t = with(elem("c", t), "a")
		}
	}
	return t
}

// grow is a tree of the kind, of chosen names; its kids lie at most so deep.
func grow(r *rand.Rand, kind api.NodeKind, deep int) api.Tree {
	names := []string{"a", "b", "c"}
	t := api.Tree{Kind: kind}
	if kind == api.Elem || kind == api.Attr {
		t.Name = names[r.Intn(len(names))]
	}
	if kind > api.Elem {
		t.Value = "v"
		return t
	}
	if kind == api.Elem {
		for _, i := range r.Perm(len(names))[:r.Intn(len(names)+1)] {
			t = with(t, append([]string{names[i]}, attrNames(t)...)...)
		}
	}
	last := api.NodeKind(0)
	for range r.Intn(5) {
		k := []api.NodeKind{api.Elem, api.Elem, api.Text, api.Comment}[r.Intn(4)]
		if deep > 0 && (k != api.Text || last != api.Text) {
			t.Kids = append(t.Kids, grow(r, k, deep-1))
			last = k
		}
	}
	return t
}

func attrNames(t api.Tree) []string {
	var names []string
	for _, p := range t.Attrs {
		names = append(names, p.Name)
	}
	return names
}

func store(t *testing.T, trees ...api.Tree) *node.Store {
	t.Helper()
	s, e := node.New(api.MaxNodes)
	if e != api.OK {
		t.Fatal(e)
	}
	build(t, s, trees...)
	return s
}

func build(t *testing.T, s *node.Store, trees ...api.Tree) {
	t.Helper()
	for _, x := range trees {
		if _, e := s.Build(x); e != api.OK {
			t.Fatalf("Build of %v: %v", x, e)
		}
	}
}

// stores are stores of every kind of tree, of several beside one another, of deep ones and of grown ones.
func stores(t *testing.T) []*node.Store {
	t.Helper()
	lone := []api.Tree{doc(), elem("a"), with(elem("a"), "a", "b"), attr("a"), text("t"), comment("c"), doc(with(elem("a", elem("b")), "a")), elem("a", text("t"), elem("b"), comment("c")), with(elem("a", with(elem("b"), "b")), "a")}
	ss := []*node.Store{store(t), store(t, whole()), store(t, whole(), attr("a"), whole()), store(t, nested(elem("a"), 64), nested(text("t"), 64))}
	for _, x := range lone {
		for _, y := range lone {
			ss = append(ss, store(t, x, y, x))
		}
	}
	r := rand.New(rand.NewSource(6))
	for range 100 {
		s := store(t)
		for range 1 + r.Intn(4) {
			build(t, s, grow(r, api.NodeKind(1+r.Intn(5)), r.Intn(5)))
		}
		ss = append(ss, s)
	}
	return ss
}

// strangers are numbers that are no node's.
func strangers(s *node.Store) []int {
	return []int{0, -1, -2, -s.Len(), s.Len() + 1, s.Len() + 2, math.MaxInt, math.MaxInt - 1, math.MinInt, math.MinInt + 1}
}

// below are all kids, kids of kids and so on.
func below(s *node.Store, n int) []int {
	var ns []int
	for _, k := range s.Kids(n) {
		ns = append(append(ns, k), below(s, k)...)
	}
	return ns
}

// above are the parent, that one's parent and so on.
func above(s *node.Store, n int) []int {
	if s.Parent(n) == 0 {
		return nil
	}
	return append([]int{s.Parent(n)}, above(s, s.Parent(n))...)
}

// meant are an axis' nodes as the chapter tells them, by lists of kids, attributes and parents.
func meant(s *node.Store, n int, axis api.Axis) []int {
	siblings := s.Kids(s.Parent(n))
	place := slices.Index(siblings, n)
	switch axis {
	case api.Child:
		return s.Kids(n)
	case api.Descendant:
		return below(s, n)
	case api.Attribute:
		return s.Attrs(n)
	case api.Self:
		return []int{n}
	case api.DescSelf:
		return append([]int{n}, below(s, n)...)
	case api.Following:
		if place >= 0 {
			return siblings[place+1:]
		}
	case api.Parent:
		return above(s, n)[:min(1, len(above(s, n)))]
	case api.Ancestor:
		return above(s, n)
	case api.Preceding:
		if place >= 0 {
			siblings = siblings[:place]
			slices.Reverse(siblings)
			return siblings
		}
	case api.AncSelf:
		return append([]int{n}, above(s, n)...)
	}
	return nil
}

func walked(s *node.Store, n int, axis api.Axis) []int { return slices.Collect(Walk(s, n, axis)) }

func TestP61Examples(t *testing.T) {
	s := store(t, with(elem("a", text("t"), elem("b")), "x"))
	for i, c := range []struct {
		n    int
		axis api.Axis
		want []int
	}{{1, api.Child, []int{3, 4}}, {4, api.Preceding, []int{3}}, {3, api.Ancestor, []int{1}}, {1, api.Attribute, []int{2}}, {2, api.Parent, []int{1}}, {2, api.Following, nil}} {
		if got := walked(s, c.n, c.axis); !slices.Equal(got, c.want) {
			t.Errorf("%d: %v, not %v", i, got, c.want)
		}
	}
	if got := Step(s, 1, api.Child, api.Test{Kind: api.TextTest}); !slices.Equal(got, []int{3}) {
		t.Errorf("Step: %v", got)
	}
}

// Every axis of every node of one tree, written out by hand: in the order of the axes' numbers.
func TestP61WalkByHand(t *testing.T) {
	s := store(t, text("ahead"), whole(), attr("x"))
	want := map[int][]([]int){
		1:  {{2, 3, 14}, {2, 3, 6, 7, 9, 10, 12, 13, 14}, {}, {1}, {1, 2, 3, 6, 7, 9, 10, 12, 13, 14}, {}, {}, {}, {}, {1}},
		2:  {{}, {}, {}, {2}, {2}, {3, 14}, {1}, {1}, {}, {2, 1}},
		3:  {{6, 7, 12, 13}, {6, 7, 9, 10, 12, 13}, {4, 5}, {3}, {3, 6, 7, 9, 10, 12, 13}, {14}, {1}, {1}, {2}, {3, 1}},
		4:  {{}, {}, {}, {4}, {4}, {}, {3}, {3, 1}, {}, {4, 3, 1}},
		5:  {{}, {}, {}, {5}, {5}, {}, {3}, {3, 1}, {}, {5, 3, 1}},
		6:  {{}, {}, {}, {6}, {6}, {7, 12, 13}, {3}, {3, 1}, {}, {6, 3, 1}},
		7:  {{9, 10}, {9, 10}, {8}, {7}, {7, 9, 10}, {12, 13}, {3}, {3, 1}, {6}, {7, 3, 1}},
		8:  {{}, {}, {}, {8}, {8}, {}, {7}, {7, 3, 1}, {}, {8, 7, 3, 1}},
		9:  {{}, {}, {}, {9}, {9}, {10}, {7}, {7, 3, 1}, {}, {9, 7, 3, 1}},
		10: {{}, {}, {11}, {10}, {10}, {}, {7}, {7, 3, 1}, {9}, {10, 7, 3, 1}},
		11: {{}, {}, {}, {11}, {11}, {}, {10}, {10, 7, 3, 1}, {}, {11, 10, 7, 3, 1}},
		12: {{}, {}, {}, {12}, {12}, {13}, {3}, {3, 1}, {7, 6}, {12, 3, 1}},
		13: {{}, {}, {}, {13}, {13}, {}, {3}, {3, 1}, {12, 7, 6}, {13, 3, 1}},
		14: {{}, {}, {}, {14}, {14}, {}, {1}, {1}, {3, 2}, {14, 1}},
	}
	if len(want) != s.Len()-2 {
		t.Fatalf("%d nodes", s.Len())
	}
	for n, rows := range want {
		for i, row := range rows {
			// A Text by itself stands ahead of the tree.
			for j := range row {
				row[j]++
			}
			if got := walked(s, n+1, axes[i]); !slices.Equal(got, row) {
				t.Errorf("the axis %d of %d: %v, not %v", axes[i], n+1, got, row)
			}
		}
	}
}

func TestP61WalkByTheChapter(t *testing.T) {
	for i, s := range stores(t) {
		for n := 1; n <= s.Len(); n++ {
			for _, axis := range axes {
				if got, want := walked(s, n, axis), meant(s, n, axis); !slices.Equal(got, want) {
					t.Fatalf("the axis %d of %d in the store %d: %v, not %v", axis, n, i, got, want)
				}
			}
		}
	}
}

func TestP61WalkOfNothing(t *testing.T) {
	for i, s := range stores(t) {
		for _, axis := range slices.Concat(axes, noAxes) {
			for _, n := range strangers(s) {
				if got := walked(s, n, axis); len(got) > 0 {
					t.Fatalf("the axis %d of %d, which is no node, in the store %d: %v", axis, n, i, got)
				}
			}
		}
		for _, axis := range noAxes {
			for n := range s.Len() + 1 {
				if got := walked(s, n, axis); len(got) > 0 {
					t.Fatalf("the axis %d, which is none, of %d in the store %d: %v", axis, n, i, got)
				}
			}
		}
	}
}

// goTo goes through a walk up to its node number k, and tells what it saw.
func goTo(t *testing.T, walk iter.Seq[int], k int) []int {
	t.Helper()
	var got []int
	stopped := false
	walk(func(n int) bool {
		if stopped {
			t.Fatalf("a walk that was stopped at %v goes on to %d", got, n)
		}
		got = append(got, n)
		stopped = len(got) == k
		return !stopped
	})
	return got
}

func TestP61WalkStopped(t *testing.T) {
	for _, s := range []*node.Store{store(t, whole()), store(t, whole(), nested(whole().Kids[1], 5)), store(t, nested(elem("a"), 64))} {
		for n := 1; n <= s.Len(); n++ {
			for _, axis := range axes {
				want := meant(s, n, axis)
				walk := Walk(s, n, axis)
				for k := 1; k <= len(want); k++ {
					if got := goTo(t, walk, k); !slices.Equal(got, want[:k]) {
						t.Fatalf("the axis %d of %d, stopped at the node number %d: %v, not %v", axis, n, k, got, want[:k])
					}
				}
				for range 3 {
					if got := goTo(t, walk, -1); !slices.Equal(got, want) {
						t.Fatalf("the axis %d of %d, gone through again: %v, not %v", axis, n, got, want)
					}
				}
			}
		}
	}
}

func TestP61WalkNested(t *testing.T) {
	s := store(t, whole())
	for n := 1; n <= s.Len(); n++ {
		for _, axis := range axes {
			want := meant(s, n, axis)
			walk := Walk(s, n, axis)
			var outer []int
			for a := range walk {
				outer = append(outer, a)
				var inner []int
				for b := range walk {
					inner = append(inner, b)
					if b == a {
						break
					}
				}
				if !slices.Equal(inner, outer) {
					t.Fatalf("the axis %d of %d, nested in itself up to %d: %v, not %v", axis, n, a, inner, outer)
				}
				if got := slices.Collect(walk); !slices.Equal(got, want) {
					t.Fatalf("the axis %d of %d, nested in itself at %d: %v, not %v", axis, n, a, got, want)
				}
			}
			if !slices.Equal(outer, want) {
				t.Fatalf("the axis %d of %d around itself: %v, not %v", axis, n, outer, want)
			}
		}
	}
}

func TestP61WalksSideBySide(t *testing.T) {
	s := store(t, whole())
	for _, axis := range axes {
		walk := Walk(s, 7, axis)
		want := meant(s, 7, axis)
		first, endFirst := iter.Pull(walk)
		second, endSecond := iter.Pull(walk)
		for i := range len(want) + 2 {
			a, okA := first()
			b, okB := second()
			if okA != (i < len(want)) || okB != okA || a != b || okA && a != want[i] {
				t.Errorf("two walks of the axis %d side by side: %d, %v, %d, %v at %d of %v", axis, a, okA, b, okB, i, want)
			}
		}
		endFirst()
		endSecond()
	}
}

// What is built behind a walk changes nothing of it: neither one that has begun, nor one that is kept, nor one of a number that was no node's.
func TestP61WalkWhileBuilding(t *testing.T) {
	for _, axis := range axes {
		s := store(t, whole())
		var want [][]int
		var walks []iter.Seq[int]
		for n := range 40 {
			var row []int
			if n >= 1 && n <= s.Len() {
				row = meant(s, n, axis)
			}
			want = append(want, row)
			walks = append(walks, Walk(s, n, axis))
		}
		for n, walk := range walks {
			var got []int
			for m := range walk {
				got = append(got, m)
				build(t, s, whole(), attr("a"), text("t"))
			}
			if again := slices.Collect(walk); !slices.Equal(got, want[n]) || !slices.Equal(again, got) {
				t.Fatalf("the axis %d of %d while trees are built: %v and then %v, not %v", axis, n, got, again, want[n])
			}
			build(t, s, elem("a", elem("b")))
		}
	}
}

func TestP61WalkWide(t *testing.T) {
	const last = api.MaxNodes
	s := store(t, doc(slices.Repeat([]api.Tree{elem("a")}, last-1)...))
	count := func(n int, axis api.Axis) int {
		c := 0
		for range Walk(s, n, axis) {
			c++
		}
		return c
	}
	if count(1, api.Child) != last-1 || count(1, api.Descendant) != last-1 || count(1, api.DescSelf) != last || count(2, api.Following) != last-2 || count(last, api.Preceding) != last-2 || count(last, api.Following) != 0 || count(2, api.Preceding) != 0 {
		t.Error("a store of the most nodes")
	}
	if got := goTo(t, Walk(s, last, api.Preceding), 2); !slices.Equal(got, []int{last - 1, last - 2}) {
		t.Errorf("those ahead of the last one: %v", got)
	}
}

// tests are node tests of every Kind and of none, without and with names.
func tests() []api.Test {
	var all []api.Test
	for _, kind := range []api.TestKind{api.AnyNode, api.AnyElem, api.Named, api.TextTest, api.CommentTest, api.ElemTest, api.AttrTest, api.DocTest, api.Tests, api.Tests + 1, -1, -2, 77, math.MaxInt, math.MinInt} {
		for _, name := range []string{"", "a", "b", "x", "A", "aa", " a", "v", "\xff"} {
			all = append(all, api.Test{Kind: kind, Name: name})
		}
	}
	return all
}

// judge tells by a table of the chapter whether a test takes a tree's first node, come to by an axis.
func judge(x api.Tree, axis api.Axis, test api.Test) bool {
	type rule struct {
		kinds     []api.NodeKind
		named, or bool // the name counts; an empty one is none
	}
	own := []api.NodeKind{api.Elem}
	if axis == api.Attribute {
		own[0] = api.Attr
	}
	rules := map[api.TestKind]rule{
		api.AnyNode:     {kinds: []api.NodeKind{api.Doc, api.Elem, api.Attr, api.Text, api.Comment}},
		api.AnyElem:     {kinds: own},
		api.Named:       {kinds: own, named: true},
		api.TextTest:    {kinds: []api.NodeKind{api.Text}},
		api.CommentTest: {kinds: []api.NodeKind{api.Comment}},
		api.ElemTest:    {kinds: []api.NodeKind{api.Elem}, named: true, or: true},
		api.AttrTest:    {kinds: []api.NodeKind{api.Attr}, named: true, or: true},
		api.DocTest:     {kinds: []api.NodeKind{api.Doc}},
	}
	r := rules[test.Kind]
	if !slices.Contains(r.kinds, x.Kind) {
		return false
	}
	return !r.named || r.or && test.Name == "" || x.Name == test.Name
}

func TestP61TakesByTheTable(t *testing.T) {
	taken := 0
	for _, s := range stores(t)[:40] {
		for n := 1; n <= s.Len(); n++ {
			x := s.Tree(n)
			for _, axis := range slices.Concat(axes, noAxes) {
				for _, test := range tests() {
					want := judge(x, axis, test)
					if Takes(s, n, axis, test) != want {
						t.Fatalf("the test %v of %v, come to by the axis %d: not %v", test, x, axis, want)
					}
					if want {
						taken++
					}
				}
			}
		}
	}
	if taken < 1000 {
		t.Errorf("only %d taken", taken)
	}
}

// Which of the nodes 1 the Doc, 2 an Elem a, 3 its Attr a, 4 a Text, 5 a Comment, 6 an Elem b a test takes, by hand.
func TestP61TakesByHand(t *testing.T) {
	s := store(t, doc(with(elem("a", text("a"), comment("a"), elem("b")), "a")))
	for _, c := range []struct {
		test             api.Test
		attrs, allOthers []int
	}{
		{api.Test{Kind: api.AnyNode}, []int{1, 2, 3, 4, 5, 6}, []int{1, 2, 3, 4, 5, 6}},
		{api.Test{Kind: api.AnyNode, Name: "a"}, []int{1, 2, 3, 4, 5, 6}, []int{1, 2, 3, 4, 5, 6}},
		{api.Test{Kind: api.AnyElem}, []int{3}, []int{2, 6}},
		{api.Test{Kind: api.AnyElem, Name: "c"}, []int{3}, []int{2, 6}},
		{api.Test{Kind: api.Named}, nil, nil},
		{api.Test{Kind: api.Named, Name: "a"}, []int{3}, []int{2}},
		{api.Test{Kind: api.Named, Name: "b"}, nil, []int{6}},
		{api.Test{Kind: api.TextTest}, []int{4}, []int{4}},
		{api.Test{Kind: api.TextTest, Name: "b"}, []int{4}, []int{4}},
		{api.Test{Kind: api.CommentTest}, []int{5}, []int{5}},
		{api.Test{Kind: api.CommentTest, Name: "b"}, []int{5}, []int{5}},
		{api.Test{Kind: api.ElemTest}, []int{2, 6}, []int{2, 6}},
		{api.Test{Kind: api.ElemTest, Name: "a"}, []int{2}, []int{2}},
		{api.Test{Kind: api.ElemTest, Name: "b"}, []int{6}, []int{6}},
		{api.Test{Kind: api.ElemTest, Name: "c"}, nil, nil},
		{api.Test{Kind: api.AttrTest}, []int{3}, []int{3}},
		{api.Test{Kind: api.AttrTest, Name: "a"}, []int{3}, []int{3}},
		{api.Test{Kind: api.AttrTest, Name: "b"}, nil, nil},
		{api.Test{Kind: api.DocTest}, []int{1}, []int{1}},
		{api.Test{Kind: api.DocTest, Name: "a"}, []int{1}, []int{1}},
		{api.Test{Kind: api.Tests}, nil, nil},
		{api.Test{Kind: -1, Name: "a"}, nil, nil},
	} {
		for _, axis := range axes {
			want := c.allOthers
			if axis == api.Attribute {
				want = c.attrs
			}
			var got []int
			for n := -1; n <= s.Len()+1; n++ {
				if Takes(s, n, axis, c.test) {
					got = append(got, n)
				}
			}
			if !slices.Equal(got, want) {
				t.Errorf("the test %v by the axis %d takes %v, not %v", c.test, axis, got, want)
			}
		}
	}
}

func TestP61TakesOfNoNode(t *testing.T) {
	for _, s := range []*node.Store{store(t), store(t, whole())} {
		for _, n := range strangers(s) {
			for _, axis := range slices.Concat(axes, noAxes) {
				for _, test := range tests() {
					if Takes(s, n, axis, test) {
						t.Fatalf("the test %v takes %d, which is no node, by the axis %d", test, n, axis)
					}
				}
			}
		}
	}
}

func TestP61Step(t *testing.T) {
	for i, s := range stores(t)[:60] {
		trees := []api.Tree{{}}
		for n := range s.Len() {
			trees = append(trees, s.Tree(n+1))
		}
		for n := 1; n <= s.Len(); n++ {
			for _, axis := range axes {
				all := meant(s, n, axis)
				for _, test := range tests() {
					var want []int
					for _, m := range all {
						if judge(trees[m], axis, test) {
							want = append(want, m)
						}
					}
					if got := Step(s, n, axis, test); !slices.Equal(got, want) {
						t.Fatalf("the step by the axis %d and the test %v from %d in the store %d: %v, not %v", axis, test, n, i, got, want)
					}
				}
			}
		}
	}
}

func TestP61StepOfNothing(t *testing.T) {
	for _, s := range []*node.Store{store(t), store(t, whole())} {
		for _, test := range tests() {
			for _, n := range strangers(s) {
				for _, axis := range slices.Concat(axes, noAxes) {
					if got := Step(s, n, axis, test); len(got) > 0 {
						t.Fatalf("a step from %d, which is no node: %v", n, got)
					}
				}
			}
			for n := range s.Len() + 1 {
				for _, axis := range noAxes {
					if got := Step(s, n, axis, test); len(got) > 0 {
						t.Fatalf("a step from %d by the axis %d, which is none: %v", n, axis, got)
					}
				}
			}
		}
	}
}

// parts tells by counting: the nodes of n's tree that are no attributes and not n lie each once below it, above it, or in the tree of one beside it or beside one above it.
func parts(s *node.Store, n int) map[int]int {
	times := map[int]int{}
	count := func(ns []int) {
		for _, m := range ns {
			times[m]++
		}
	}
	count(walked(s, n, api.Descendant))
	count(walked(s, n, api.Ancestor))
	for m := range Walk(s, n, api.AncSelf) {
		for k := range Walk(s, m, api.Following) {
			count(walked(s, k, api.DescSelf))
		}
		for k := range Walk(s, m, api.Preceding) {
			count(walked(s, k, api.DescSelf))
		}
	}
	return times
}

func TestP63AxesPart(t *testing.T) {
	for i, s := range stores(t) {
		for n := 1; n <= s.Len(); n++ {
			times := parts(s, n)
			for m := -1; m <= s.Len()+1; m++ {
				want := 0
				if m > 0 && m != n && s.Root(m) == s.Root(n) && s.Kind(m) != 0 && s.Kind(m) != api.Attr {
					want = 1
				}
				// Of an attribute the kids of its parent neither follow nor precede: they are all below one above it.
				if s.Kind(n) == api.Attr && slices.Contains(walked(s, s.Parent(n), api.Descendant), m) {
					want = 0
				}
				if times[m] != want {
					t.Fatalf("%d is %d times beside %d in the store %d, not %d times", m, times[m], n, i, want)
				}
			}
		}
	}
}

func TestP63KidsAndParents(t *testing.T) {
	for i, s := range stores(t) {
		for n := -1; n <= s.Len()+1; n++ {
			kids, attrs := walked(s, n, api.Child), walked(s, n, api.Attribute)
			for m := 1; m <= s.Len(); m++ {
				under := slices.Equal(walked(s, m, api.Parent), []int{n})
				isAttr := s.Kind(m) == api.Attr
				if slices.Contains(kids, m) != (under && !isAttr) || slices.Contains(attrs, m) != (under && isAttr) {
					t.Fatalf("%d and %d in the store %d: kids %v, attributes %v, parent %v", n, m, i, kids, attrs, walked(s, m, api.Parent))
				}
			}
		}
	}
}

// spoil writes over a list, its spare room too.
func spoil(ns []int) {
	ns = ns[:cap(ns)]
	for i := range ns {
		ns[i] = -7
	}
}

func TestP63AnswersOfAStore(t *testing.T) {
	s := store(t, whole())
	for n := range s.Len() + 2 {
		before := s.Tree(n)
		for _, axis := range slices.Concat(axes, noAxes) {
			want := Step(s, n, axis, api.Test{})
			first, second := Step(s, n, axis, api.Test{}), Step(s, n, axis, api.Test{})
			spoil(first)
			if !slices.Equal(second, want) || !slices.Equal(Step(s, n, axis, api.Test{}), want) || !slices.Equal(walked(s, n, axis), want) {
				t.Fatalf("a written answer of the axis %d of %d changed another", axis, n)
			}
		}
		if !reflect.DeepEqual(s.Tree(n), before) {
			t.Fatalf("the node %d changed", n)
		}
	}
	if s.Len() != 14 || s.Room() != api.MaxNodes-14 || !reflect.DeepEqual(s.Tree(1), store(t, whole()).Tree(1)) {
		t.Error("the store changed")
	}
}
