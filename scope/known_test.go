package scope_test

import (
	"math"
	"strings"
	"testing"

	"espalier/api"
	"espalier/scope"
)

// there are the functions of the chapter's list, and how many arguments each takes.
var there = []struct {
	names       string
	least, most int
}{
	{"count, empty, exists, not, boolean, data, codepoints-to-string, string-to-codepoints, avg, max, min, abs, floor, ceiling, round, reverse, distinct-values, exactly-one, zero-or-one, one-or-more, doc, xs:integer, xs:decimal, xs:string, xs:boolean, xs:untypedAtomic", 1, 1},
	{"true, false, position, last", 0, 0},
	{"string, string-length, normalize-space, name, root, error", 0, 1},
	{"contains, starts-with, ends-with, substring-before, substring-after, string-join, compare, index-of, remove, deep-equal", 2, 2},
	{"substring, subsequence", 2, 3},
	{"sum", 1, 2},
	{"translate, insert-before", 3, 3},
	{"concat", 2, 8},
}

// arity is how many arguments a function takes.
type arity struct{ least, most int }

// arities are those of the list by their names.
func arities() map[string]arity {
	all := map[string]arity{}
	for _, row := range there {
		for name := range strings.SplitSeq(row.names, ", ") {
			all[name] = arity{row.least, row.most}
		}
	}
	return all
}

// counts are numbers of arguments, those that could be taken for another one among them.
func counts() []int {
	all := []int{math.MinInt, math.MinInt + 1, math.MinInt32, -1 << 32, math.MaxInt, math.MaxInt - 1, math.MaxInt32, math.MaxUint32, 1 << 31, 1000, 65536}
	for n := -300; n <= 300; n++ {
		all = append(all, n, n+1<<32)
	}
	return all
}

func TestP121List(t *testing.T) {
	all := arities()
	if len(all) != 52 {
		t.Fatalf("%d functions are in the list", len(all))
	}
	for name, a := range all {
		for _, n := range counts() {
			if got, want := scope.Known(name, n), n >= a.least && n <= a.most; got != want {
				t.Errorf("Known(%q, %d): %v", name, n, got)
			}
		}
	}
}

// unknown holds Known to false of a name, however many arguments.
func unknown(t *testing.T, name string) {
	t.Helper()
	for n := -2; n <= 10; n++ {
		if scope.Known(name, n) {
			t.Errorf("Known(%q, %d): true", name, n)
		}
	}
}

func TestP121OtherNames(t *testing.T) {
	for _, name := range []string{"", " ", "f", "local:f", "local:", "fn:", "xs:", ":", "-", "()", "$x", "count()", "position ()", "xs:anyAtomicType", "xs:int", "xs:double", "xs:untyped", "xs:Integer", "integer", "decimal", "untypedAtomic", "string-value", "upper-case", "lower-case", "matches", "replace", "tokenize", "head", "tail", "id", "node", "text", "comment", "element", "attribute", "document", "document-node", "item", "if", "typeswitch", "node-name", "local-name", "nilled", "trace", "number", "union", "concat2", "doc-available", "starts", "with", "distinct", "values", "codepoints", "zero", "one", "more", "index", "insert", "before", "équal", "\x00", "\xff", "count\x00", strings.Repeat("count", 10000)} {
		unknown(t, name)
	}
}

// What looks like a name of the list but for a little isn't it.
func TestP121AlmostNames(t *testing.T) {
	all := arities()
	other := func(names ...string) {
		t.Helper()
		for _, name := range names {
			if _, ok := all[name]; !ok {
				unknown(t, name)
			}
		}
	}
	for name := range all {
		other("fn:"+name, "local:"+name, "xs:"+name, "fn:fn:"+name, ":"+name, name+":", name+"-", "-"+name, name+" ", " "+name, name+"s", "a"+name, name+"()", name+name, name+"\x00", strings.ToUpper(name), strings.ToUpper(name[:1])+name[1:], strings.TrimPrefix(name, "xs:"))
		for i := range name {
			other(name[:i], name[i:], name[i+1:], name[:i]+name[i+1:], name[:i]+"_"+name[i+1:], name[:i]+name[i:i+1]+name[i:])
		}
		for second := range all {
			other(name+second, name+"-"+second, name+":"+second)
		}
	}
}

// What is known is what a query may call, with fn: ahead too.
func TestP121Called(t *testing.T) {
	for name, a := range arities() {
		for n := range 12 {
			args := "(" + strings.TrimPrefix(strings.Repeat(", 1", n), ", ") + ")"
			want := api.ErrFunc
			if scope.Known(name, n) {
				want = api.OK
			}
			hold(t, want, name+args)
			if !strings.Contains(name, ":") {
				hold(t, want, "fn:"+name+args)
				hold(t, api.ErrFunc, "local:"+name+args, "xs:"+strings.ToUpper(name)+args)
			}
			if want == api.OK != (n >= a.least && n <= a.most) {
				t.Errorf("%s of %d arguments is known wrongly", name, n)
			}
		}
	}
}
