package deep

import (
	"reflect"
	"slices"
	"strconv"
	"testing"

	"espalier/api"
	"espalier/atom"
	"espalier/dec"
)

// roomy is the tree in lists of its own, each with other things in its spare room.
func roomy(t api.Tree) api.Tree {
	attrs := append(slices.Clone(t.Attrs), api.Pair{Name: "spare", Value: "1"}, api.Pair{Name: "spare", Value: "2"})
	t.Attrs = attrs[:len(attrs)-2]
	var kids []api.Tree
	for _, k := range t.Kids {
		kids = append(kids, roomy(k))
	}
	kids = append(kids, text("spare"), elem("spare"))
	t.Kids = kids[:len(kids)-2]
	return t
}

// roomyAll are trees so, in a list that is so too.
func roomyAll(ts ...api.Tree) []api.Tree {
	return roomy(elem("", ts...)).Kids
}

// kept is all that the trees hold, how long each list is and what stands in its spare room: a copy.
type kept struct {
	tree  api.Tree
	attrs []api.Pair
	kids  []kept
	lens  [2]int
}

func keep(ts []api.Tree) []kept {
	var ks []kept
	for _, t := range ts {
		k := kept{lens: [2]int{len(t.Attrs), len(t.Kids)}}
		k.attrs = append(k.attrs, t.Attrs[:min(cap(t.Attrs), len(t.Attrs)+2)]...)
		k.kids = keep(t.Kids[:min(cap(t.Kids), len(t.Kids)+2)])
		k.tree = api.Tree{Kind: t.Kind, Name: t.Name, Value: t.Value}
		ks = append(ks, k)
	}
	return ks
}

// spoil writes over all that the trees hold, spare room too.
func spoil(ts []api.Tree) {
	ts = ts[:cap(ts)]
	for i := range ts {
		attrs := ts[i].Attrs[:cap(ts[i].Attrs)]
		for j := range attrs {
			attrs[j] = api.Pair{Name: "spoilt", Value: "spoilt"}
		}
		spoil(ts[i].Kids)
		ts[i] = api.Tree{Kind: api.Comment, Value: "spoilt"}
	}
}

// some are trees of every Kind, and of one that is none, with others that are the same and some that nearly are.
func some() []api.Tree {
	xy, yx := with(elem("a", text("t")), "x", "1", "y", "2"), with(elem("a", comment("c"), text("t")), "y", "2", "x", "1")
	full := api.Tree{Kind: api.Text, Name: "n", Value: "t", Kids: []api.Tree{text("k")}}
	return []api.Tree{
		xy, yx, with(elem("a", text("t"), comment("")), "x", "1", "y", "2"), with(elem("a", full), "y", "2", "x", "1"),
		with(elem("a", text("t")), "x", "2", "y", "1"), with(elem("a", text("t")), "x", "1"), with(elem("b", text("t")), "x", "1", "y", "2"),
		with(elem("a"), "x", "1", "x", "1", "y", "2"), with(elem("a"), "x", "1", "y", "2", "y", "2"), with(elem("a"), "y", "2", "x", "1", "x", "1"), with(elem("a"), "x", "1", "y", "2", "z", "3"),
		doc(xy, comment("c")), doc(yx), doc(comment("d"), yx), doc(xy, xy), doc(), doc(comment("c")),
		elem("a"), elem("a", comment("c")), elem("a", comment("d"), comment("c")), elem("a", text("")), elem("a", text("t"), text("")), elem(""),
		elem("a", xy, text("t"), yx), elem("a", yx, full, comment("c"), xy),
		attr("x", "1"), {Kind: api.Attr, Name: "x", Value: "1", Kids: []api.Tree{xy}}, attr("x", "2"), attr("", ""),
		text("t"), full, text(""), comment("t"), {Kind: api.Comment, Name: "n", Value: "t"}, comment(""),
		{}, {Name: "n", Kids: []api.Tree{xy}}, {Kind: api.Nodes}, {Kind: api.Nodes, Value: "v"}, elem("a", api.Tree{}), elem("a", api.Tree{Value: "v"}),
	}
}

func TestP75BothWaysAndByAThird(t *testing.T) {
	ts := roomyAll(some()...)
	others := roomyAll(some()...)
	before := keep(ts)
	for i, a := range ts {
		if !Trees(a, a) || !Trees(a, others[i]) {
			t.Fatalf("%+v isn't the same as itself", a)
		}
		for _, b := range ts {
			ab := Trees(a, b)
			if ab != Trees(b, a) {
				t.Fatalf("%+v and %+v: the same one way alone", a, b)
			}
			for _, c := range ts {
				if ab && Trees(b, c) != Trees(a, c) {
					t.Fatalf("%+v, %+v and %+v: by the third another answer", a, b, c)
				}
			}
		}
	}
	if !reflect.DeepEqual(keep(ts), before) || !reflect.DeepEqual(keep(others), before) {
		t.Error("Trees changed its trees")
	}
}

// What Merge answers has no empty Texts and no two side by side, Merge of it is it, and what was handed in is as it was.
func TestP75MergeOfMerge(t *testing.T) {
	ts := []api.Tree{text(""), text("x"), text("y"), elem("a", text("x"), text(""), comment("c")), comment(""), {Kind: api.Text, Name: "n", Value: "z", Kids: []api.Tree{text("")}}, {}, doc(text("")), attr("x", "")}
	for _, a := range ts {
		for _, b := range ts {
			for _, c := range ts {
				row := roomyAll(a, b, c)
				before := keep(row[:len(row)+2])
				once := Merge(row...)
				for i, x := range once {
					if x.Kind == api.Text && (x.Value == "" || i > 0 && once[i-1].Kind == api.Text) {
						t.Fatalf("Merge of %+v isn't merged: %+v", row, once)
					}
				}
				if twice := Merge(once...); !equal(once, twice) {
					t.Fatalf("Merge of %+v: %+v, and of that %+v", row, once, twice)
				}
				if !reflect.DeepEqual(keep(row[:len(row)+2]), before) {
					t.Fatalf("Merge changed %+v", row)
				}
			}
		}
	}
}

// A written answer changes neither what was handed in nor another answer; nor does what was handed in, when it is written.
func TestP75MergeIsNew(t *testing.T) {
	all := some()
	for i := range all {
		row := roomyAll(all[i], all[(i+7)%len(all)], all[(i+13)%len(all)])
		before, want := keep(row[:len(row)+2]), plain(Merge(row...))
		first, second := Merge(row...), Merge(row...)
		spoil(first)
		if !reflect.DeepEqual(keep(row[:len(row)+2]), before) {
			t.Fatalf("a written answer changed %+v", row)
		}
		if !equal(second, want) {
			t.Fatalf("a written answer changed another one of %+v", row)
		}
		spoil(row)
		if !equal(second, want) {
			t.Fatalf("a written row changed its answer %+v", second)
		}
	}
}

// grow puts a pair and a kid more behind the lists of each of the trees, each with a mark of its own.
func grow(ts []api.Tree, mark *int) {
	for i := range ts {
		*mark++
		ts[i].Attrs = append(ts[i].Attrs, api.Pair{Name: strconv.Itoa(*mark)})
		grow(ts[i].Kids, mark)
		*mark++
		ts[i].Kids = append(ts[i].Kids, comment(strconv.Itoa(*mark)))
	}
}

// No two lists of one answer share any, though those that were handed in do.
func TestP75ListsOfOneAnswer(t *testing.T) {
	x := roomy(elem("a", with(elem("p", text("t"), text("u")), "x", "1", "y", "2"), elem("p")))
	x.Kids[1].Kids, x.Kids[1].Attrs = x.Kids[0].Kids, x.Kids[0].Attrs
	before := keep([]api.Tree{x, x, x})
	for i := range 3 {
		got := Merge(x, x, x)
		rest := plain(got)
		spoil(got[i : i+1 : i+1])
		got[i] = rest[i]
		if !equal(got, rest) {
			t.Fatalf("the tree %d shares its lists: %+v", i, got)
		}
		for j := range 2 {
			got, rest := Merge(x, x, x), plain(rest)
			spoil(got[i].Kids[j : j+1 : j+1])
			got[i].Kids[j] = rest[i].Kids[j]
			if !equal(got, rest) {
				t.Fatalf("the kid %d of the tree %d shares its lists: %+v", j, i, got)
			}
		}
	}
	got := Merge(x, x, x)
	rest := plain(got)
	grow(got, new(int))
	grow(rest, new(int))
	if !equal(got, rest) {
		t.Errorf("lists share their spare room: %+v", got)
	}
	if !reflect.DeepEqual(keep([]api.Tree{x, x, x}), before) {
		t.Error("Merge changed its trees")
	}
}

// spare are items with others in their spare room.
func spare(items ...api.Item) []api.Item {
	return append(slices.Clone(items), atomic(atom.Of(77), atom.Text("spare"))...)[:len(items)]
}

func TestP75ItemsBothWaysAndByAThird(t *testing.T) {
	trees := several()
	s := store(t, trees...)
	var rows [][]api.Item
	for n := 1; n <= s.Len()+2; n++ {
		rows = append(rows, spare(nodes(n)...))
	}
	for _, a := range rights() {
		rows = append(rows, spare(atomic(a)...))
	}
	rows = append(rows, spare(), spare(nodes(1, 1)...), spare(append(nodes(1), atomic(atom.Of(1))...)...), spare(append(nodes(1), atomic(atom.Number(dec.Num{N: 1}))...)...))
	for _, a := range rows {
		if !Items(s, a, a) {
			t.Fatalf("%v isn't the same as itself", a)
		}
		for _, b := range rows {
			ab := Items(s, a, b)
			if ab != Items(s, b, a) {
				t.Fatalf("%v and %v: the same one way alone", a, b)
			}
			for _, c := range rows {
				if ab && Items(s, b, c) != Items(s, a, c) {
					t.Fatalf("%v, %v and %v: by the third another answer", a, b, c)
				}
			}
		}
	}
	for _, a := range rows {
		if long := a[:len(a)+2]; long[len(a)].Atom != atom.Of(77) || long[len(a)+1].Atom != atom.Text("spare") {
			t.Fatalf("Items changed the spare room of %v", a)
		}
	}
	for i, n := 0, 1; i < len(trees); i, n = i+1, s.End(n)+1 {
		if !equal([]api.Tree{s.Tree(n)}, trees[i:i+1]) {
			t.Errorf("Items changed the store's tree %d", i)
		}
	}
}

func TestP75ValuesAreNew(t *testing.T) {
	trees := []api.Tree{elem("a", text("t")), comment("c"), attr("x", "1")}
	s := store(t, trees...)
	size := s.Len()
	items := spare(append(nodes(1, 3, 4, size+1), atomic(rights()...)...)...)
	before := slices.Clone(items[:len(items)+2])
	for _, call := range []func() []api.Atom{
		func() []api.Atom { return Atoms(s, items...) },
		func() []api.Atom { as, _ := Values(s, items...); return as },
	} {
		first, second := call(), call()
		want := slices.Clone(second)
		long := first[:cap(first)]
		for i := range long {
			long[i] = atom.Text("spoilt")
		}
		if !slices.Equal(second, want) || !slices.Equal(call(), want) || !slices.Equal(items[:len(items)+2], before) {
			t.Error("a written answer changed what it doesn't own")
		}
		for i := range items {
			items[i] = api.Item{Node: 2}
		}
		if !slices.Equal(second, want) {
			t.Error("written items changed their answer")
		}
		copy(items, before)
	}
	texts := Atoms(s, items...)
	held := slices.Clone(texts[:cap(texts)])
	Join(", ", texts...)
	if !slices.Equal(texts[:cap(texts)], held) || s.Len() != size {
		t.Error("Join changed its values")
	}
	for i, n := range []int{1, 3, 4} {
		if !equal([]api.Tree{s.Tree(n)}, trees[i:i+1]) {
			t.Errorf("Atoms or Values changed the store's tree %d", i)
		}
	}
}
