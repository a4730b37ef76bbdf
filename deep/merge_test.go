package deep

import (
	"reflect"
	"slices"
	"strconv"
	"strings"
	"testing"

	"espalier/api"
)

// plain are the trees with nil for lists that are empty.
func plain(ts []api.Tree) []api.Tree {
	var ps []api.Tree
	for _, t := range ts {
		t.Attrs, t.Kids = append([]api.Pair(nil), t.Attrs...), plain(t.Kids)
		ps = append(ps, t)
	}
	return ps
}

func equal(as, bs []api.Tree) bool { return reflect.DeepEqual(plain(as), plain(bs)) }

// merged is a row brought into form by taking away one Text at a time.
func merged(ts []api.Tree) []api.Tree {
	ts = slices.Clone(ts)
	for i := 0; i < len(ts); {
		switch {
		case ts[i].Kind == api.Text && ts[i].Value == "":
			ts = slices.Delete(ts, i, i+1)
			i = 0
		case i > 0 && ts[i].Kind == api.Text && ts[i-1].Kind == api.Text:
			ts[i-1].Value += ts[i].Value
			ts = slices.Delete(ts, i, i+1)
			i = 0
		default:
			i++
		}
	}
	return ts
}

func TestP73ByHand(t *testing.T) {
	x, y, none, e := text("x"), text("y"), text(""), elem("a")
	for i, c := range []struct{ ts, want []api.Tree }{
		{nil, nil},
		{[]api.Tree{}, nil},
		{[]api.Tree{none}, nil},
		{[]api.Tree{none, none, none}, nil},
		{[]api.Tree{x}, []api.Tree{x}},
		{[]api.Tree{x, none, y}, []api.Tree{text("xy")}},
		{[]api.Tree{x, y}, []api.Tree{text("xy")}},
		{[]api.Tree{y, x, y}, []api.Tree{text("yxy")}},
		{[]api.Tree{none, x, none, none, y, none}, []api.Tree{text("xy")}},
		{[]api.Tree{x, e, y}, []api.Tree{x, e, y}},
		{[]api.Tree{x, y, e, y, x, x}, []api.Tree{text("xy"), e, text("yxx")}},
		{[]api.Tree{none, e, none, e, none}, []api.Tree{e, e}},
		{[]api.Tree{x, comment(""), y}, []api.Tree{x, comment(""), y}},
		{[]api.Tree{x, attr("", ""), none, doc(), api.Tree{}, y}, []api.Tree{x, attr("", ""), doc(), api.Tree{}, y}},
		{[]api.Tree{x, api.Tree{Kind: api.Nodes, Value: "z"}, y}, []api.Tree{x, api.Tree{Kind: api.Nodes, Value: "z"}, y}},
		{[]api.Tree{text(" "), text("\n"), text("é"), text("\xff"), text("\x00")}, []api.Tree{text(" \né\xff\x00")}},
		// Trees stay as they are inside.
		{[]api.Tree{elem("b", x, none, y, elem("c", none))}, []api.Tree{elem("b", x, none, y, elem("c", none))}},
		{[]api.Tree{doc(x, y), doc(none)}, []api.Tree{doc(x, y), doc(none)}},
	} {
		if got := Merge(c.ts...); !equal(got, c.want) {
			t.Errorf("%d: Merge of %+v: %+v, not %+v", i, c.ts, got, c.want)
		}
	}
}

// Of a Text that isn't empty the first one's other fields stay; an empty one goes, whatever else it has.
func TestP73TextsThatAreFull(t *testing.T) {
	full := func(value, mark string) api.Tree {
		x := with(text(value), mark, "1")
		x.Name, x.Kids = mark, []api.Tree{text(mark), text("")}
		return x
	}
	for i, c := range []struct{ ts, want []api.Tree }{
		{[]api.Tree{full("x", "m")}, []api.Tree{full("x", "m")}},
		{[]api.Tree{full("", "m")}, nil},
		{[]api.Tree{full("x", "m"), full("y", "n")}, []api.Tree{full("xy", "m")}},
		{[]api.Tree{text("x"), full("y", "n")}, []api.Tree{text("xy")}},
		{[]api.Tree{full("x", "m"), text("y"), text("z")}, []api.Tree{full("xyz", "m")}},
		{[]api.Tree{full("", "m"), full("x", "n"), full("", "m"), full("y", "o")}, []api.Tree{full("xy", "n")}},
		{[]api.Tree{full("x", "m"), elem("a"), full("y", "n"), full("z", "o")}, []api.Tree{full("x", "m"), elem("a"), full("yz", "n")}},
	} {
		if got := Merge(c.ts...); !equal(got, c.want) {
			t.Errorf("%d: Merge of %+v: %+v, not %+v", i, c.ts, got, c.want)
		}
	}
}

func TestP73AllShortRows(t *testing.T) {
	some := []api.Tree{text(""), text("x"), text("y"), comment(""), comment("x"), with(elem("a", text("x"), text("")), "x", ""), attr("x", ""), {}}
	rows := [][]api.Tree{nil}
	for i := 0; i < len(rows) && len(rows[i]) < 5; i++ {
		for _, x := range some {
			rows = append(rows, append(slices.Clip(rows[i]), x))
		}
	}
	for _, row := range rows {
		if got := Merge(row...); !equal(got, merged(row)) {
			t.Fatalf("Merge of %+v: %+v, not %+v", row, got, merged(row))
		}
	}
}

func TestP73AllShapes(t *testing.T) {
	for _, x := range shapes() {
		row := []api.Tree{text("u"), x, text(""), x, text("v")}
		if got := Merge(row...); !equal(got, merged(row)) {
			t.Fatalf("Merge of %+v: %+v, not %+v", row, got, merged(row))
		}
	}
}

func TestP73LongRows(t *testing.T) {
	var ts []api.Tree
	var want strings.Builder
	for i := range 300000 {
		want.WriteString(strconv.Itoa(i))
		ts = append(ts, text(strconv.Itoa(i)), text(""))
	}
	if got := Merge(ts...); len(got) != 1 || got[0].Value != want.String() {
		t.Error("many Texts side by side")
	}
	deep := elem("a")
	for range 60000 {
		deep = elem("a", deep)
	}
	if got := Merge(deep, text("t")); len(got) != 2 || !Trees(got[0], deep) {
		t.Error("a deep tree")
	}
}
