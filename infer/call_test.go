package infer_test

import (
	"slices"
	"strings"
	"testing"

	"espalier/api"
	"espalier/scope"
)

// fixed are the calls whose type is the same, whatever the arguments: how many these may be in the core, and the type.
var fixed = []struct {
	want string
	args []int
	name []string
}{
	{"xs:integer", []int{0}, []string{"position", "last"}},
	{"xs:integer", []int{1}, []string{"count", "string-length"}},
	{"xs:integer?", []int{2}, []string{"compare"}},
	{"xs:integer*", []int{2}, []string{"index-of"}},
	{"xs:integer*", []int{1}, []string{"string-to-codepoints"}},
	{"xs:boolean", []int{0}, []string{"true", "false"}},
	{"xs:boolean", []int{1}, []string{"empty", "exists", "not", "boolean"}},
	{"xs:boolean", []int{2}, []string{"contains", "starts-with", "ends-with", "deep-equal"}},
	{"xs:string", []int{1}, []string{"string", "normalize-space", "name", "codepoints-to-string"}},
	{"xs:string", []int{2}, []string{"substring-before", "substring-after", "string-join"}},
	{"xs:string", []int{2, 3}, []string{"substring"}},
	{"xs:string", []int{3}, []string{"translate"}},
	{"xs:string", []int{2, 3, 4, 5, 6, 7, 8}, []string{"concat"}},
	{"xs:decimal?", []int{1}, []string{"abs", "floor", "ceiling", "round", "avg"}},
	{"xs:anyAtomicType", []int{1}, []string{"sum"}},
	{"xs:anyAtomicType?", []int{2}, []string{"sum"}},
	{"xs:anyAtomicType?", []int{1}, []string{"max", "min"}},
	{"node()?", []int{1}, []string{"root"}},
	{"document-node()?", []int{1}, []string{"doc"}},
	{"empty-sequence()", []int{0, 1}, []string{"error"}},
}

// made are the calls whose type hangs on the arguments', in the same way.
var made = []struct {
	name string
	args []int
}{{"data", []int{1}}, {"distinct-values", []int{1}}, {"reverse", []int{1}}, {"subsequence", []int{2, 3}}, {"remove", []int{2}}, {"insert-before", []int{3}}, {"exactly-one", []int{1}}, {"zero-or-one", []int{1}}, {"one-or-more", []int{1}}}

func TestP151FixedCalls(t *testing.T) {
	t.Parallel()
	for _, f := range fixed {
		want := typeOf(t, f.want)
		for _, name := range f.name {
			for _, count := range f.args {
				if !scope.Known(name, count) {
					t.Fatalf("no function %s of %d", name, count)
				}
				for _, a := range declared() {
					vars, es := operands(slices.Repeat([]api.SeqType{a}, count)...)
					if got, ok := found(t, api.Module{}, vars, named(api.Call, name, es...)); got != want || !ok {
						t.Errorf("%s of %d of %v: %s, not %s", name, count, a, typeText(got, ok), f.want)
					}
				}
			}
		}
	}
}

func TestP151MadeCalls(t *testing.T) {
	t.Parallel()
	for _, f := range made {
		for _, count := range f.args {
			if !scope.Known(f.name, count) {
				t.Fatalf("no function %s of %d", f.name, count)
			}
			for _, a := range declared() {
				for _, b := range declared() {
					vars, es := operands(a, b, b)
					holdJudged(t, nil, vars, named(api.Call, f.name, es[:count]...))
					if count == 3 {
						holdJudged(t, nil, vars, named(api.Call, f.name, es[0], es[0], es[1]))
					}
				}
			}
		}
	}
}

// there are the names of all functions that are there, but those that are casts in the core.
const there = "count empty exists not boolean data codepoints-to-string string-to-codepoints avg max min abs floor ceiling round reverse distinct-values exactly-one zero-or-one one-or-more doc " +
	"true false position last string string-length normalize-space name root error contains starts-with ends-with substring-before substring-after string-join compare index-of remove deep-equal " +
	"substring subsequence sum translate insert-before concat"

// Each function that is there stands in one of the lists, with each count of arguments that it has in the core.
func TestP151AllCalls(t *testing.T) {
	type call struct {
		name string
		args int
	}
	listed := map[call]int{}
	for _, f := range fixed {
		for _, name := range f.name {
			for _, count := range f.args {
				listed[call{name, count}]++
			}
		}
	}
	for _, f := range made {
		for _, count := range f.args {
			listed[call{f.name, count}]++
		}
	}
	total := 0
	for _, name := range strings.Fields(there) {
		for count := range 10 {
			takesDot := count == 0 && strings.Contains(" string string-length normalize-space name root ", " "+name+" ")
			want := 0
			if scope.Known(name, count) && !takesDot {
				want = 1
			}
			if listed[call{name, count}] != want {
				t.Errorf("%s of %d is listed %d times", name, count, listed[call{name, count}])
			}
			total += want
		}
	}
	if total != len(listed) {
		t.Errorf("%d are there, %d are listed", total, len(listed))
	}
}

func TestP151CallRows(t *testing.T) {
	holdRows(t, []row{
		{"count(())", "xs:integer"}, {"count(a)", "xs:integer"}, {"a[position() = 1]", "element(a)*"}, {"(1, 2)[last()]", "xs:integer*"}, {"position()", "xs:integer"}, {"last() + 1", "xs:integer"}, {"string-length()", "xs:integer"}, {`compare("a", ())`, "xs:integer?"}, {"index-of((1, 2), 1)", "xs:integer*"}, {`string-to-codepoints("a")`, "xs:integer*"},
		{"true()", "xs:boolean"}, {"not(())", "xs:boolean"}, {"deep-equal(a, b)", "xs:boolean"}, {"string()", "xs:string"}, {"name()", "xs:string"}, {"name(a)", "xs:string"}, {"normalize-space()", "xs:string"}, {`concat("a", 1)`, "xs:string"}, {`substring("a", 1, 2)`, "xs:string"}, {`string-join(a, ",")`, "xs:string"},
		{"data(1)", "xs:integer"}, {"data((1, 2.5))", "xs:decimal+"}, {"data(a)", "xs:untypedAtomic*"}, {"data(<a/>)", "xs:untypedAtomic"}, {"data(@a)", "xs:untypedAtomic*"}, {"data(text())", "xs:untypedAtomic*"}, {"data(document {1})", "xs:untypedAtomic"}, {"data(comment())", "xs:string*"}, {"data(comment {1})", "xs:string"}, {"data(node())", "xs:anyAtomicType*"}, {"data(.)", "xs:anyAtomicType"}, {"data(())", "empty-sequence()"}, {`data((1, "a"))`, "xs:anyAtomicType+"}, {"data(true())", "xs:boolean"}, {"data(/)", "xs:anyAtomicType"},
		{"abs(1)", "xs:decimal?"}, {"floor(())", "xs:decimal?"}, {"ceiling(1.5)", "xs:decimal?"}, {"round(a)", "xs:decimal?"}, {"avg((1, 2))", "xs:decimal?"}, {"sum((1, 2))", "xs:anyAtomicType"}, {"sum(())", "xs:anyAtomicType"}, {"sum((), ())", "xs:anyAtomicType?"}, {"sum(1, 2)", "xs:anyAtomicType?"}, {"max((1, 2))", "xs:anyAtomicType?"}, {"min(())", "xs:anyAtomicType?"},
		{"distinct-values((1, 1))", "xs:integer*"}, {"distinct-values(a)", "xs:untypedAtomic*"}, {"distinct-values(comment {1})", "xs:string*"}, {"distinct-values((a, 1))", "xs:anyAtomicType*"}, {"distinct-values(())", "empty-sequence()"},
		{"reverse((1, 2))", "xs:integer*"}, {"reverse(1)", "xs:integer*"}, {"reverse(<a/>)", "element(a)*"}, {"reverse(())", "empty-sequence()"}, {`subsequence("a", 1)`, "xs:string*"}, {`subsequence("a", 1, 2)`, "xs:string*"}, {"remove(a, 1)", "element(a)*"}, {`remove("a", 1)`, "xs:string*"},
		{"insert-before(1, 1, 2.5)", "xs:decimal*"}, {`insert-before(1, "a", 2)`, "xs:integer*"}, {"insert-before((), 1, 2)", "xs:integer*"}, {"insert-before(1, 1, ())", "xs:integer*"}, {"insert-before((), 1, ())", "empty-sequence()"}, {"insert-before(<a/>, 1, <b/>)", "element()*"}, {"insert-before(<a/>, 1, <a/>)", "element(a)*"}, {"insert-before(1, 1, a)", "item()*"},
		{"exactly-one(a)", "element(a)"}, {"exactly-one((1, 2))", "xs:integer"}, {"exactly-one(())", "empty-sequence()"}, {"zero-or-one(a)", "element(a)?"}, {"zero-or-one(1)", "xs:integer?"}, {"zero-or-one(())", "empty-sequence()"}, {"one-or-more(a)", "element(a)+"}, {"one-or-more(1)", "xs:integer+"}, {"one-or-more(())", "empty-sequence()"},
		{"root()", "node()?"}, {"root(a)", "node()?"}, {`doc("a")`, "document-node()?"}, {"error()", "empty-sequence()"}, {"error(1)", "empty-sequence()"}, {"1 + error()", "empty-sequence()"}, {"(1, error())", "xs:integer"}, {"if (1) then 2 else error()", "xs:integer?"}, {"error() eq 1", "empty-sequence()"}, {"error()/a", "element(a)*"},
		{`count("a" + 1)`, clash}, {`error("a" + 1)`, clash}, {`concat("a", "b", -"c")`, clash}, {"sum((), 1/a)", clash}, {`count(1) eq "a"`, clash}, {"string(1) + 1", clash}, {"not(1) + 1", clash}, {`compare("a", "b") eq "a"`, "xs:boolean?"}, {"index-of(1, 1)/a", "element(a)*"}, {"abs(1)/a", "element(a)*"}, {"exactly-one(1[1])/a", clash}, {"one-or-more(1[1])/a", clash}, {"zero-or-one(1)/a", "element(a)*"},
	})
}

// A Func's Result is the type of its calls, whatever its Body and its arguments are.
func TestP151FuncCalls(t *testing.T) {
	for _, ty := range declared() {
		funcs := []api.Func{
			{Name: "local:g", Result: of(api.StrItem, api.Plus), Body: number(1)},
			{Name: "local:f", Params: []api.Param{{Name: "a", Type: of(api.StrItem, api.One)}}, Result: ty, Body: number(1)},
			{Name: "local:f", Params: []api.Param{{Name: "a"}, {Name: "b"}}, Result: of(api.BoolItem, api.Plus), Body: number(1)},
			{Name: "local:count", Params: []api.Param{{Name: "a"}}, Result: ty, Body: number(1)},
		}
		for _, name := range []string{"local:f", "local:count"} {
			if got, ok := found(t, api.Module{Funcs: funcs}, nil, named(api.Call, name, number(1))); got != ty || !ok {
				t.Errorf("%s with the Result %v: %v", name, ty, got)
			}
		}
		if got, ok := found(t, api.Module{Funcs: funcs}, nil, named(api.Call, "local:f", number(1), number(2))); got != of(api.BoolItem, api.Plus) || !ok {
			t.Errorf("local:f of two: %v", got)
		}
		if got, ok := found(t, api.Module{Funcs: funcs}, nil, named(api.Call, "local:g")); got != of(api.StrItem, api.Plus) || !ok {
			t.Errorf("local:g: %v", got)
		}
	}
}

// The name of a function that is there stands for that, though a Func has it: with as many arguments as that takes, and no other.
func TestP151FuncOfAKnownName(t *testing.T) {
	m := api.Module{Funcs: []api.Func{
		{Name: "count", Params: []api.Param{{Name: "a"}}, Result: of(api.StrItem, api.Plus), Body: number(1)},
		{Name: "reverse", Params: []api.Param{{Name: "a"}}, Result: of(api.StrItem, api.Plus), Body: number(1)},
		{Name: "count", Params: []api.Param{{Name: "a"}, {Name: "b"}}, Result: of(api.StrItem, api.Plus), Body: number(1)},
		{Name: "concat", Params: []api.Param{{Name: "a"}}, Result: of(api.NodeItem, api.Plus), Body: number(1)},
		{Name: "concat", Params: make([]api.Param, 9), Result: of(api.NodeItem, api.Plus), Body: number(1)},
		{Name: "contains", Params: make([]api.Param, 3), Result: of(api.NodeItem, api.Plus), Body: number(1)},
	}}
	for _, c := range []struct {
		name string
		args int
		want api.SeqType
	}{
		{"count", 1, of(api.IntItem, api.One)}, {"reverse", 1, of(api.IntItem, api.Star)}, {"count", 2, of(api.StrItem, api.Plus)},
		{"concat", 1, of(api.NodeItem, api.Plus)}, {"concat", 2, of(api.StrItem, api.One)}, {"concat", 8, of(api.StrItem, api.One)}, {"concat", 9, of(api.NodeItem, api.Plus)},
		{"contains", 2, of(api.BoolItem, api.One)}, {"contains", 3, of(api.NodeItem, api.Plus)},
	} {
		e := named(api.Call, c.name, slices.Repeat([]api.Expr{number(1)}, c.args)...)
		if got, ok := found(t, m, nil, e); got != c.want || !ok {
			t.Errorf("%s of %d: %v", c.name, c.args, got)
		}
	}
}
