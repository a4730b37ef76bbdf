package infer_test

import (
	"testing"

	"espalier/api"
)

// row is a query's text, and its type.
type row struct{ text, want string }

func holdRows(t *testing.T, rows []row) {
	t.Helper()
	for _, r := range rows {
		hold(t, r.text, r.want)
	}
}

// raw is a literal that only a program can write, as the content of an element is in the core no such one.
func raw(s string) api.Expr { return literal(api.Atom{Kind: api.Untyped, S: s}) }

func TestP151Examples(t *testing.T) {
	holdRows(t, []row{
		{"1 + 2", "xs:integer"},
		{`1 + "a"`, clash},
		{`for $x in (1, 2) return ($x, "a")`, "xs:anyAtomicType+"},
		{"//a", "element(a)*"},
		{"(a, 1)[1]", "item()*"},
		{"if (.) then 1 else ()", "xs:integer?"},
	})
}

func TestP151Literals(t *testing.T) {
	holdRows(t, []row{{"1", "xs:integer"}, {"0", "xs:integer"}, {"1.5", "xs:decimal"}, {"1.0", "xs:decimal"}, {`"a"`, "xs:string"}, {`""`, "xs:string"}, {".", "item()"}, {"/", "node()"}})
	for kind, want := range map[api.AtomKind]api.ItemKind{api.Int: api.IntItem, api.Dec: api.DecItem, api.Str: api.StrItem, api.Bool: api.BoolItem, api.Untyped: api.UntItem} {
		if got, ok := found(t, api.Module{}, nil, literal(api.Atom{Kind: kind})); got != of(want, api.One) || !ok {
			t.Errorf("a Lit of the kind %d: %v", kind, got)
		}
	}
}

func TestP151Rows(t *testing.T) {
	holdRows(t, []row{
		{"()", "empty-sequence()"},
		{"(1, 2)", "xs:integer+"},
		{"(1, ())", "xs:integer"},
		{"((), 1, ())", "xs:integer"},
		{"((), ())", "empty-sequence()"},
		{`(1, 2.5, ())`, "xs:decimal+"},
		{`(1, "a", a)`, "item()+"},
		{"(a, b)", "element()*"},
		{"(a, a)", "element(a)*"},
		{"(a, @a)", "node()*"},
		{"1 to 2", "xs:integer*"},
		{`"a" to ()`, "xs:integer*"},
		{`true() to a`, "xs:integer*"},
		{"() to ()", "xs:integer*"},
		{"1 = 2", "xs:boolean"},
		{`() != "a"`, "xs:boolean"},
		{`1 < "a"`, "xs:boolean"},
		{`true() <= "a"`, "xs:boolean"},
		{"a > ()", "xs:boolean"},
		{"1 >= true()", "xs:boolean"},
		{"1 and ()", "xs:boolean"},
		{`"a" or a`, "xs:boolean"},
		{"a is b", "xs:boolean?"},
		{"a << /", "xs:boolean?"},
		{". is .", "xs:boolean"},
		{"/ >> .", "xs:boolean"},
		{"/ >> ()", "empty-sequence()"},
		{"() << /", "empty-sequence()"},
		{"() is ()", "empty-sequence()"},
		{"1 is 2", "xs:boolean"},
		{"some $x in 1 satisfies ()", "xs:boolean"},
		{"every $x in () satisfies 2", "xs:boolean"},
		{"1 instance of xs:string", "xs:boolean"},
		{"() instance of empty-sequence()", "xs:boolean"},
		{"() castable as xs:integer", "xs:boolean"},
		{"a castable as xs:integer?", "xs:boolean"},
		{"if (1) then 2 else 3.5", "xs:decimal"},
		{"if (()) then () else ()", "empty-sequence()"},
		{`if ("a") then (1, 2) else ()`, "xs:integer*"},
		{"if (a) then a else b", "element()*"},
		{"if (true()) then 1 else a", "item()*"},
		{"a union b", "node()*"},
		{"() | ()", "node()*"},
		{"1 intersect a", "node()*"},
		{"a except a", "node()*"},
	})
}

func TestP151Arithmetic(t *testing.T) {
	holdRows(t, []row{
		{"1 + 1", "xs:integer"}, {"1 - 1", "xs:integer"}, {"1 * 1", "xs:integer"}, {"1 mod 1", "xs:integer"}, {"1 idiv 1", "xs:integer"}, {"1 div 1", "xs:decimal"}, {"-1", "xs:integer"},
		{"1 + 1.5", "xs:decimal"}, {"1.5 - 1", "xs:decimal"}, {"1.5 * 1.5", "xs:decimal"}, {"1.5 mod 1", "xs:decimal"}, {"1.5 idiv 2.5", "xs:integer"}, {"1.5 div 1", "xs:decimal"}, {"-1.5", "xs:decimal"},
		{"a + 1", "xs:decimal?"}, {"1 idiv a", "xs:integer?"}, {"1 div a", "xs:decimal?"}, {"-a", "xs:decimal?"}, {". * 2", "xs:decimal"},
		{"() + 1", "empty-sequence()"}, {"1 idiv ()", "empty-sequence()"}, {"() div ()", "empty-sequence()"}, {"-()", "empty-sequence()"},
		{"(1, 2) + 1", "xs:integer"}, {"1[1] + 1", "xs:integer?"}, {"1 + 1[1]", "xs:integer?"}, {"(1 to 2) - 1", "xs:integer?"}, {"count(a) mod 2", "xs:integer"},
		{"/ + 1", "xs:decimal"}, {"document {1} + 1", "xs:decimal"}, {"<a/> * <b/>", "xs:decimal"}, {"attribute a {1} idiv 1", "xs:integer"}, {"text {1} + 1", "xs:decimal?"},
	})
}

func TestP151ArithmeticClash(t *testing.T) {
	holdRows(t, []row{
		{`"a" + 1`, clash}, {`1 - "a"`, clash}, {`"a" * "b"`, clash}, {`1 div true()`, clash}, {`false() idiv 1`, clash}, {`1 mod string(a)`, clash}, {`-"a"`, clash}, {"-true()", clash}, {"+true()", "xs:boolean"},
		{`() + "a"`, clash}, {`true() div ()`, clash}, {`a + "a"`, clash}, {`("a", "b") + 1`, clash},
		{`"a"[1] + 1`, "xs:decimal?"}, {`(1, "a") + 1`, "xs:decimal"}, {`"a" + 1[1]`, clash}, {"(1 to 2) - true()", clash},
		{"comment {1} + 1", clash}, {"1 idiv comment {1}", clash}, {"a/comment() + 1", "xs:decimal?"}, {"-exactly-one(a/comment())", clash}, {"-zero-or-one(a/comment())", "xs:decimal?"},
	})
}

func TestP151Comparison(t *testing.T) {
	holdRows(t, []row{
		{"1 eq 2", "xs:boolean"}, {"1 ne 2.5", "xs:boolean"}, {`"a" lt "b"`, "xs:boolean"}, {"true() le false()", "xs:boolean"}, {"1.5 gt 2.5", "xs:boolean"}, {`"a" ge <a/>`, "xs:boolean"}, {"(/) eq <a/>", "xs:boolean"},
		{"1 eq ()", "empty-sequence()"}, {`() ne "a"`, "empty-sequence()"}, {"() lt ()", "empty-sequence()"},
		{"a le 1", "xs:boolean?"}, {"1 gt a", "xs:boolean?"}, {"a ge b", "xs:boolean?"}, {". eq 1", "xs:boolean"}, {"(1, 2) eq 1", "xs:boolean"}, {`1[1] eq "a"`, "xs:boolean?"}, {`1 eq "a"[1]`, "xs:boolean?"}, {`"a" eq 1[1]`, "xs:boolean?"},
		{`1 eq "a"`, clash}, {`"a" ne 1.5`, clash}, {`1 lt <a/>`, clash}, {"1.5 le true()", clash}, {`true() gt 1`, clash}, {`"a" ge false()`, clash}, {"false() eq <a/>", clash}, {"<a/> eq true()", clash}, {"<a/> eq 1", clash},
		{"1 eq comment {1}", clash}, {"comment {1} eq <a/>", "xs:boolean"}, {"comment {1} eq true()", clash}, {`(1, 2) eq ("a", "b")`, clash}, {`(1, "a") eq "a"`, "xs:boolean"}, {`"a" eq (1, "a")`, "xs:boolean"}, {"(/) eq 1", "xs:boolean"}, {"(/) eq true()", "xs:boolean"},
	})
}

func TestP151Paths(t *testing.T) {
	holdRows(t, []row{
		{"a", "element(a)*"}, {"a/b", "element(b)*"}, {"a/1", "xs:integer*"}, {"a/()", "empty-sequence()"}, {"()/a", "element(a)*"}, {"()/()", "empty-sequence()"}, {"./a", "element(a)*"}, {"(a, 1)/b", "element(b)*"},
		{"1/a", clash}, {`"a"/a`, clash}, {"(1, 2)/a", clash}, {"true()/a", clash}, {`(1, "a")/b`, clash}, {"1[1]/a", "element(a)*"}, {"(1 to 2)/a", "element(a)*"}, {"data(a)/a", "element(a)*"}, {"sum(a)/a", clash}, {"1/()", clash},
		{"a/.", "item()*"}, {"a/(1, 2.5)", "xs:decimal*"}, {"a/(b, text())", "node()*"}, {"//@x/..", "node()*"}, {"/a", "element(a)*"}, {"a//b", "element(b)*"}, {"a/string()", "xs:string*"},
	})
}

func TestP151Steps(t *testing.T) {
	holdRows(t, []row{
		{"*", "element()*"}, {"@*", "attribute()*"}, {"@a", "attribute(a)*"}, {"@node()", "node()*"}, {"..", "node()*"}, {"node()", "node()*"}, {"text()", "text()*"}, {"comment()", "comment()*"}, {"document-node()", "document-node()*"},
		{"element()", "element()*"}, {"element(a)", "element(a)*"}, {"element(*)", "element()*"}, {"attribute()", "attribute()*"}, {"attribute(a)", "attribute(a)*"}, {"child::attribute(a)", "attribute(a)*"}, {"attribute::element(a)", "element(a)*"}, {"@text()", "text()*"},
		{"self::a", "element(a)*"}, {"parent::*", "element()*"}, {"ancestor::a", "element(a)*"}, {"attribute::a", "attribute(a)*"}, {"descendant-or-self::node()", "node()*"},
	})
}

// Of a step alone, which is never alone in a core: an axis' one node or many, by each test.
func TestP151StepAlone(t *testing.T) {
	for axis := api.Child; axis < api.Axes; axis++ {
		occ := api.Star
		if axis == api.Self || axis == api.Parent {
			occ = api.Opt
		}
		own := api.ElemItem
		if axis == api.Attribute {
			own = api.AttrItem
		}
		for _, c := range []struct {
			test api.Test
			want api.SeqType
		}{
			{api.Test{}, api.SeqType{Item: api.NodeItem}},
			{api.Test{Kind: api.AnyElem}, api.SeqType{Item: own}},
			{api.Test{Kind: api.AnyElem, Name: "n"}, api.SeqType{Item: own}},
			{api.Test{Kind: api.Named, Name: "n"}, api.SeqType{Item: own, Name: "n"}},
			{api.Test{Kind: api.TextTest}, api.SeqType{Item: api.TextItem}},
			{api.Test{Kind: api.CommentTest}, api.SeqType{Item: api.ComItem}},
			{api.Test{Kind: api.ElemTest}, api.SeqType{Item: api.ElemItem}},
			{api.Test{Kind: api.ElemTest, Name: "n"}, api.SeqType{Item: api.ElemItem, Name: "n"}},
			{api.Test{Kind: api.AttrTest}, api.SeqType{Item: api.AttrItem}},
			{api.Test{Kind: api.AttrTest, Name: "n"}, api.SeqType{Item: api.AttrItem, Name: "n"}},
			{api.Test{Kind: api.DocTest}, api.SeqType{Item: api.DocItem}},
		} {
			c.want.Occ = occ
			e := api.Expr{Op: api.Step, Axis: axis, Test: c.test}
			if got, ok := found(t, api.Module{}, nil, e); got != c.want || !ok {
				t.Errorf("the axis %d, the test %v: %v, not %v", axis, c.test, got, c.want)
			}
			c.want.Occ = api.Opt
			if occ == api.Star {
				c.want.Occ = api.Star
			}
			if got, ok := found(t, api.Module{}, nil, expr(api.Filter, e, number(1))); got != c.want || !ok {
				t.Errorf("filtered, the axis %d, the test %v: %v, not %v", axis, c.test, got, c.want)
			}
		}
	}
}

func TestP151Filters(t *testing.T) {
	holdRows(t, []row{
		{"5[1]", "xs:integer?"}, {"5[1][2]", "xs:integer?"}, {"(1, 2)[1]", "xs:integer*"}, {"(1 to 2)[1]", "xs:integer*"}, {"()[1]", "empty-sequence()"}, {"a[1]", "element(a)*"}, {"a[b]/c", "element(c)*"}, {"a/(b[1])", "element(b)*"},
		{"(/)[1]", "node()?"}, {".[1]", "item()?"}, {"1[()]", "xs:integer?"}, {`1["a"]`, "xs:integer?"}, {"<a/>[1]", "element(a)?"}, {"..[1]", "node()*"},
	})
}

func TestP151Loops(t *testing.T) {
	holdRows(t, []row{
		{"for $x in 1 return $x", "xs:integer"}, {"for $x in (1, 2) return $x", "xs:integer+"}, {"for $x in (1 to 2) return $x", "xs:integer*"}, {"for $x in 1[1] return $x", "xs:integer?"}, {"for $x in () return 1", "empty-sequence()"}, {"for $x in (1, 2) return ()", "empty-sequence()"},
		{"for $x in (1, 2) return (1, 2.5)", "xs:decimal+"}, {"for $x in 1[1] return (1, 2)", "xs:integer*"}, {"for $x in a return $x", "element(a)*"}, {"for $x in <a/> return ($x, $x)", "element(a)+"},
		{"for $x at $p in (1, 2) return $p", "xs:integer+"}, {`for $x at $p in ("a", "b") return $p + 1`, "xs:integer+"}, {`for $x at $p in "a" return ($x, $p)`, "xs:anyAtomicType+"}, {"for $x at $p in a return $p", "xs:integer*"}, {"for $x at $p in () return $p", "empty-sequence()"},
		{"for $x in 1, $y in ($x, 2.5) return $y", "xs:decimal+"}, {"for $x in 1 where $x return 2", "xs:integer?"}, {"for $x in (1, 2) where $x eq 1 return $x", "xs:integer*"},
		{`for $x in ("a", "b") return $x + 1`, clash}, {`for $x in "a"[1] return $x + 1`, clash}, {"for $x in () return $x + 1", "empty-sequence()"}, {`for $x in () return "a" + 1`, clash},
		{"let $x := 1 return $x", "xs:integer"}, {"let $x := (1, 2.5) return $x", "xs:decimal+"}, {"let $x := () return $x", "empty-sequence()"}, {"let $x := a return $x/b", "element(b)*"}, {"let $x := 1 return a", "element(a)*"}, {`let $x := "a" return 1`, "xs:integer"}, {`let $x := "a" return $x + 1`, clash}, {`let $x := "a" + 1 return 1`, clash},
		{"for $x in (1, 2) order by $x return $x", "xs:integer*"}, {"for $x in 1 order by $x return $x", "xs:integer?"}, {"for $x in 1 order by $x descending return (1, 2)", "xs:integer*"}, {"for $x in (1 to 2) order by $x return 1.5", "xs:decimal*"}, {"for $x in 1[1] order by $x return $x", "xs:integer?"},
		{"for $x in () order by $x return 1", "empty-sequence()"}, {"for $x in (1, 2) order by $x return ()", "empty-sequence()"}, {"for $x at $p in a order by $p return $p", "xs:integer*"}, {`for $x in "a" where $x + 1 order by 1 return 1`, clash}, {`for $x in "a" order by $x + 1 return 1`, clash}, {`for $x in "a" order by 1 return $x + 1`, clash}, {`for $x at $p in "a" where $p + 1 order by $p + 1 return $p + 1`, "xs:integer?"},
		{"some $x in (1, 2) satisfies $x + 1", "xs:boolean"}, {`some $x in "a" satisfies $x + 1`, clash}, {`every $x in ("a", "b") satisfies $x eq 1`, clash}, {"every $x in (1, 2) satisfies $x eq 1", "xs:boolean"}, {`some $x in () satisfies $x + 1`, "xs:boolean"}, {`some $x in 1, $y in ($x, "a") satisfies $y + 1`, "xs:boolean"}, {"every $x in 1, $y in $x satisfies $y/a", clash},
	})
}

func TestP151Switches(t *testing.T) {
	holdRows(t, []row{
		{"typeswitch (1) case xs:string return 1 default return 2", "xs:integer"}, {"typeswitch (1) case xs:string return 1 default return 2.5", "xs:decimal"}, {"typeswitch (1) case xs:string return () default return 2", "xs:integer?"},
		{"typeswitch (1) case $v as xs:string return $v default $w return $w", "xs:anyAtomicType"}, {"typeswitch (a) case $v as xs:string+ return $v case $v as element(b)? return 1 default $v return $v", "item()*"}, {"typeswitch (a) case $v as element(b) return $v default $v return $v", "element()*"},
		{"typeswitch (()) case $v as xs:integer return $v default $v return $v", "xs:integer?"}, {"typeswitch (()) case $v as empty-sequence() return $v default $v return $v", "empty-sequence()"},
		{`typeswitch (1) case $v as xs:string return $v + 1 default return 1`, clash}, {`typeswitch ("a") case $v as xs:integer return $v + 1 default return 1`, "xs:integer"}, {`typeswitch ("a") case $v as xs:integer return 1 default $v return $v + 1`, clash}, {`typeswitch (1) case $v as xs:string return 1 default $v return $v + 1`, "xs:integer"}, {`typeswitch ("a" + 1) case xs:string return 1 default return 1`, clash},
		{"let $v := 1 return typeswitch (a) case $v as xs:string return 2 default return $v", "xs:integer"}, {"let $v := 1 return typeswitch (a) case $w as xs:string return $v default $v return 2", "xs:integer"},
	})
	lone := expr(api.Switch, number(1), api.Expr{Op: api.Case, Name: "v", Type: of(api.AnyItem, api.Star), Kids: []api.Expr{expr(api.Add, variable("v"), number(1))}})
	if got, ok := found(t, api.Module{}, nil, lone); got != of(api.IntItem, api.One) || !ok {
		t.Errorf("a Switch of its last Case alone: %v", got)
	}
}

func TestP151Types(t *testing.T) {
	holdRows(t, []row{
		{"1 cast as xs:string", "xs:string"}, {"() cast as xs:integer?", "xs:integer?"}, {"a cast as xs:untypedAtomic", "xs:untypedAtomic"}, {"1 cast as xs:boolean?", "xs:boolean?"}, {"xs:decimal(1)", "xs:decimal?"}, {"xs:integer(a) + 1", "xs:integer?"}, {`("1" cast as xs:integer) + 1`, "xs:integer"}, {`(1 cast as xs:string) + 1`, clash},
		{"1 treat as xs:string", "xs:string"}, {"1 treat as empty-sequence()", "empty-sequence()"}, {"a treat as element(b)+", "element(b)+"}, {"() treat as item()*", "item()*"}, {"(1 treat as xs:string) + 1", clash}, {"(1 treat as xs:string?) + 1", "xs:decimal?"}, {"(1 treat as document-node())/a", "element(a)*"},
	})
	for _, op := range []api.Op{api.Cast, api.Treat, api.Convert} {
		for _, ty := range declared() {
			if got, ok := found(t, api.Module{}, nil, typed(op, ty, expr(api.Seq))); got != ty || !ok {
				t.Errorf("expression %d of the type %v: %v", op, ty, got)
			}
		}
	}
}

func TestP151Makers(t *testing.T) {
	holdRows(t, []row{
		{"<a/>", "element(a)"}, {"<a b='{1}'>{2}</a>", "element(a)"}, {"element a {}", "element(a)"}, {`element {"a"} {}`, "element(a)"}, {`element {"a b"} {}`, "element()"}, {`element {""} {}`, "element()"}, {"element {1} {}", "element()"}, {`element {("a", "b")} {}`, "element()"}, {`element {concat("a", "b")} {}`, "element()"}, {"element {a} {}", "element()"}, {"element {()} {}", "element()"},
		{"attribute a {1}", "attribute(a)"}, {`attribute {"a-1"} {1}`, "attribute(a-1)"}, {`attribute {"1a"} {1}`, "attribute()"}, {"attribute {1.5} {1}", "attribute()"}, {"attribute {@a} {1}", "attribute()"},
		{"text {1}", "text()?"}, {"text {()}", "text()?"}, {`comment {"a"}`, "comment()"}, {"comment {}", "comment()"}, {"document {<a/>}", "document-node()"}, {"document {}", "document-node()"},
	})
	noLit := api.Expr{Op: api.Dot, Val: str("a").Val}
	for _, name := range []api.Expr{noLit, raw("a"), literal(api.Atom{Kind: api.Bool, B: true}), number(1), variable("a"), named(api.Call, "string", str("a"))} {
		for op, want := range map[api.Op]api.ItemKind{api.MakeElem: api.ElemItem, api.MakeAttr: api.AttrItem} {
			if got, ok := found(t, api.Module{}, nil, expr(op, name, str("b"))); got != of(want, api.One) || !ok {
				t.Errorf("made by %d with a name of %v: %v", op, name, got)
			}
		}
	}
}
