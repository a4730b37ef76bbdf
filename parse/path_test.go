package parse_test

import (
	"testing"

	"espalier/api"
)

const below = "(step descendant-or-self node())"

func TestP111Paths(t *testing.T) {
	all(t,
		"a/b", "(path (step child a) (step child b))",
		"a/b/c", "(path (path (step child a) (step child b)) (step child c))",
		"a/(b/c)", "(path (step child a) (path (step child b) (step child c)))",
		"a//b", "(path (path (step child a) "+below+") (step child b))",
		"a//b/c//d", "(path (path (path (path (path (step child a) "+below+") (step child b)) (step child c)) "+below+") (step child d))",
		"/a", "(path (root) (step child a))",
		"/a/b", "(path (path (root) (step child a)) (step child b))",
		"/a//b", "(path (path (path (root) (step child a)) "+below+") (step child b))",
		"//a", "(path (path (root) "+below+") (step child a))",
		"//a//b", "(path (path (path (path (root) "+below+") (step child a)) "+below+") (step child b))",
		"a/descendant-or-self::node()/b", "(path (path (step child a) "+below+") (step child b))",
		"/descendant-or-self::node()", "(path (root) "+below+")",
		"//descendant-or-self::node()", "(path (path (root) "+below+") "+below+")",
		"(//a)//b", "(path (path (path (path (root) "+below+") (step child a)) "+below+") (step child b))",
		"a/descendant-or-self::*/b", "(path (path (step child a) (step descendant-or-self *)) (step child b))",
		"$x/1/'a'/f()/(1,2)/./..", `(path (path (path (path (path (path $x 1) "a") (call name=f)) (seq 1 2)) (dot)) (step parent node()))`,
		"a/.5", "(path (step child a) 5e-1)",
		"1/2", "(path 1 2)",
		"text{1}/<a/>/element{1}{2}", "(path (path (text 1) (direct name=a)) (elem 1 2))",
	)
	refuse(t, api.ErrSyntax, "//", "a/", "a//", "a///b", "///a", "/ /", "/ / a", "// /a", "//(", "//)", "a/ /b", "a//+b", "a/if (1) then 2 else 3", "a/1,", "a / = 1", "//-1", "a/>b", "(a/)", "(//)", "a[/ /]", "a b/c")
}

// A / by itself, ahead of what begins a step and of what doesn't.
func TestP111Roots(t *testing.T) {
	all(t,
		"/", "(root)",
		"(/)", "(root)",
		"/,/", "(seq (root) (root))",
		"(/)/a", "(path (root) (step child a))",
		"a/(/)", "(path (step child a) (root))",
		"a[/]", "(filter (step child a) (root))",
		"(/)[1]", "(filter (root) 1)",
		"f(/)", "(call name=f (root))",
		"f(/,/)", "(call name=f (root) (root))",
		"text{/}", "(text (root))",
		"<a>{/}</a>", "(direct name=a (root))",
		"/ = 1", "(geq (root) 1)",
		"/ - 1", "(sub (root) 1)",
		"/ + 1", "(add (root) 1)",
		"/ | a", "(union (root) (step child a))",
		"/ < 1", "(glt (root) 1)",
		"/ < a", "(glt (root) (step child a))",
		"/<1", "(glt (root) 1)",
		"/<<a", "(before (root) (step child a))",
		"/<=a", "(gle (root) (step child a))",
		"/ > a", "(ggt (root) (step child a))",
		"1 to /", "(range 1 (root))",
		"/*", "(path (root) (step child *))",
		"/ *", "(path (root) (step child *))",
		"/ * * 2", "(mul (path (root) (step child *)) 2)",
		"(/) * 2", "(mul (root) 2)",
		"/ and", "(path (root) (step child and))",
		"/ union", "(path (root) (step child union))",
		"/ and and 1", "(and (path (root) (step child and)) 1)",
		"/instance instance of item()", "(instance <any> (path (root) (step child instance)))",
		"(/) and 1", "(and (root) 1)",
		"(/) union a", "(union (root) (step child a))",
		"(/) instance of node()", "(instance <node> (root))",
		"(/) treat as node()", "(treat <node> (root))",
		"1 = (/) and 2", "(and (geq 1 (root)) 2)",
		"2 * (/) * 3", "(mul (mul 2 (root)) 3)",
		"-(/) * 3", "(mul (neg (root)) 3)",
		"for $x in (/), $y in / , $z in (/) return /", "(flwor (for name=x (root)) (for name=y (root)) (for name=z (root)) (root))",
		"let $x := (/) where (/) order by (/) return (/)", "(flwor (let name=x (root)) (where (root)) (order (root)) (root))",
		"let $x := (/) order by (/) descending return / = 1", "(flwor (let name=x (root)) (order down (root)) (geq (root) 1))",
		"if (/) then (/) else /", "(if (root) (root) (root))",
		"some $x in / , $y in (/) satisfies /", "(some name=x (root) (some name=y (root) (root)))",
		"typeswitch (/) case item() return (/) case node() return (/) default return /", "(switch (root) (case <any> (root)) (case <node> (root)) (case <any*> (root)))",
		"/<a/>", "(path (root) (direct name=a))",
		"/ <a/>", "(path (root) (direct name=a))",
		"/@a", "(path (root) (step attribute a))",
		"/..", "(path (root) (step parent node()))",
		"/.", "(path (root) (dot))",
		"/1", "(path (root) 1)",
		"/.5", "(path (root) 5e-1)",
		"/'a'", `(path (root) "a")`,
		"/$x", "(path (root) $x)",
		"/()", "(path (root) (seq))",
		"/f(1)", "(path (root) (call name=f 1))",
		"/a:b()", "(path (root) (call name=a:b))",
		"/child::a", "(path (root) (step child a))",
		"/text{1}", "(path (root) (text 1))",
		"/for", "(path (root) (step child for))",
		"/if(1)", "(path (root) (call name=if 1))",
	)
	refuse(t, api.ErrSyntax, "/ and 1", "/ union a", "/ * 2", "/ div 2", "/ instance of node()", "/ eq 1", "/ <a", "/<a", "/ a b", "for $x in / return 1", "if (1) then / else 2", "some $x in 1 satisfies / and 2", "/[1]", "//[1]", "//=1", "/::a", "/)", "/;", "/{1}", "let $x := / return 1")
}

func TestP111Axes(t *testing.T) {
	tests := map[string]string{
		"a": "a", "*": "*", "node()": "node()", "text()": "text()", "comment( )": "comment()", "document-node()": "document-node()", "element()": "element()", "element(*)": "element()", "element(b)": "element(b)",
		"attribute()": "attribute()", "attribute(*)": "attribute()", "attribute(b)": "attribute(b)", "text": "text", "element": "element", "child": "child", "é-1.·": "é-1.·",
	}
	for s, want := range tests {
		for _, axis := range axisNames {
			all(t, axis+"::"+s, "(step "+axis+" "+want+")", axis+" (::) :: "+s+"[1]", "(filter (step "+axis+" "+want+") 1)", "a/"+axis+"::"+s, "(path (step child a) (step "+axis+" "+want+"))")
		}
		bare := "child"
		if s[0] == 'a' && s != "a" {
			bare = "attribute"
		}
		all(t, s, "(step "+bare+" "+want+")", "@"+s, "(step attribute "+want+")", "@ "+s+"[1][2]", "(filter (filter (step attribute "+want+") 1) 2)")
	}
	all(t,
		"..", "(step parent node())",
		"parent::node()", "(step parent node())",
		"../..", "(path (step parent node()) (step parent node()))",
		"..[1]", "(filter (step parent node()) 1)",
		".", "(dot)",
		".[1]", "(filter (dot) 1)",
		"./.", "(path (dot) (dot))",
		"* * *", "(mul (step child *) (step child *))",
		"***", "(mul (step child *) (step child *))",
		"*[*]", "(filter (step child *) (step child *))",
	)
	refuse(t, api.ErrSyntax,
		"x::a", "following::a", "namespace::a", "Child::a", "child::", "child:a", "child ::: a", "::a", "a:child::b", "child::a:b", "child::$x", "child::1", "child::.", "child::..", "child::@a", "child::(a)", "child::f()", "child::parent::a", "child::text(1)", "child::if(1)", "child: :a", "x ::a",
		"@", "@1", "@@a", "@..", "@.", "@$x", "@(a)", "@a:b", "@f()", "@child::a", "@text(a)", "@if(1)", "@'a'",
		"a:b", "a:b/c", "a/b:c", "...", ". .", ".a", "..a", ".. ..", "* *", "a *", "node(a)", "node(*)", "text(a)", "comment(1)", "document-node(a)", "document-node(element(a))", "element(1)", "element(a:b)", "element(a,b)", "element(a b)", "element(element(a))", "attribute('a')", "attribute(a", "node(", "*()", "*:a", "a:*", "node()()",
	)
}

func TestP111Predicates(t *testing.T) {
	all(t,
		"a[1]", "(filter (step child a) 1)",
		"a[1][2][3]", "(filter (filter (filter (step child a) 1) 2) 3)",
		"a[b[1]]", "(filter (step child a) (filter (step child b) 1))",
		"a[1,2]", "(filter (step child a) (seq 1 2))",
		"a[()]", "(filter (step child a) (seq))",
		"a[for $x in 1 return 2]", "(filter (step child a) (flwor (for name=x 1) 2))",
		"(1,2)[1]", "(filter (seq 1 2) 1)",
		"()[1]", "(filter (seq) 1)",
		"(a/b)[1]", "(filter (path (step child a) (step child b)) 1)",
		"(a[1])[2]", "(filter (filter (step child a) 1) 2)",
		"1[2]", "(filter 1 2)",
		"1.[2]", "(filter 1e-0 2)",
		"'a'[2]", `(filter "a" 2)`,
		"$x[2]", "(filter $x 2)",
		"f(1)[2]", "(filter (call name=f 1) 2)",
		"f()[2]/a", "(path (filter (call name=f) 2) (step child a))",
		"element a {1}[2]", "(filter (elem name=a 1) 2)",
		"text {1}[2]", "(filter (text 1) 2)",
		"<a/>[2]", "(filter (direct name=a) 2)",
		"<a>[2]</a>[2]", `(filter (direct name=a ~"[2]") 2)`,
		"text()[2]", "(filter (step child text()) 2)",
		"-1[2]", "(neg (filter 1 2))",
		"1[2]+3[4]", "(add (filter 1 2) (filter 3 4))",
		"(1 + 2)[3]", "(filter (add 1 2) 3)",
	)
	refuse(t, api.ErrSyntax, "a[]", "a[", "a]", "a[1", "a[1]]", "a[[1]]", "[1]", "a[1,]", "a[1;]", "a/[1]", "a[1]b", "a[1](2)", "a[1]{2}")
}

func TestP111Calls(t *testing.T) {
	all(t,
		"f()", "(call name=f)",
		"f(1)", "(call name=f 1)",
		"f ( 1 , a )", "(call name=f 1 (step child a))",
		"f(:r:)(1)", "(call name=f 1)",
		"f((1,2),())", "(call name=f (seq 1 2) (seq))",
		"f(g(h()))", "(call name=f (call name=g (call name=h)))",
		"f(for $x in 1 return 2, 3)", "(call name=f (flwor (for name=x 1) 2) 3)",
		"fn:f(1)", "(call name=f 1)",
		"fn:fn(1)", "(call name=fn 1)",
		"fn(1)", "(call name=fn 1)",
		"local:f()", "(call name=local:f)",
		"xs:integer('1')", `(call name=xs:integer "1")`,
		"fnx:f()", "(call name=fnx:f)",
		"a:fn()", "(call name=a:fn)",
		"é:é()", "(call name=é:é)",
		"fn:if(1)", "(call name=if 1)",
		"fn:typeswitch(1)", "(call name=typeswitch 1)",
		"fn:text()", "(call name=text)",
		"fn:node(1,2)", "(call name=node 1 2)",
		"fn:element(a)", "(call name=element (step child a))",
		"fn:document-node()/fn:attribute(1)[fn:comment()]", "(path (call name=document-node) (filter (call name=attribute 1) (call name=comment)))",
		"a/f(1)", "(path (step child a) (call name=f 1))",
		"1 + if(2)", "(add 1 (call name=if 2))",
		"-typeswitch(2, 3)", "(neg (call name=typeswitch 2 3))",
		"f/g()", "(path (step child f) (call name=g))",
	)
	refuse(t, api.ErrSyntax, "f(", "f(1", "f(1,)", "f(,1)", "f(1 2)", "f)", "f(1))", "f()()", "f(1)(2)", "fn: f()", "fn :f()", "$f()", "1()", "'f'()", "f(1;2)", "f[1](2)", "f(as)as", "if(1)", "typeswitch(1)")
}

func TestP111Makers(t *testing.T) {
	all(t,
		"element a {1}", "(elem name=a 1)",
		"element a {}", "(elem name=a (seq))",
		"element a {()}", "(elem name=a (seq))",
		"element a {1,2}", "(elem name=a (seq 1 2))",
		"element {1} {2}", "(elem 1 2)",
		"element{1}{}", "(elem 1 (seq))",
		"element {1, 2} {3, 4}", "(elem (seq 1 2) (seq 3 4))",
		"element {()} {}", "(elem (seq) (seq))",
		"attribute a {1}", "(attr name=a 1)",
		"attribute a {}", "(attr name=a (seq))",
		"attribute {1} {2}", "(attr 1 2)",
		"attribute {1} { (::) }", "(attr 1 (seq))",
		"text {1}", "(text 1)",
		"text {}", "(text (seq))",
		"text{1,2}", "(text (seq 1 2))",
		"comment {1}", "(com 1)",
		"comment {}", "(com (seq))",
		"document {1}", "(doc 1)",
		"document {}", "(doc (seq))",
		"element element {element}", "(elem name=element (step child element))",
		"element return {1}", "(elem name=return 1)",
		"attribute div {1} div 2", "(div (attr name=div 1) 2)",
		"element é-1.· {1}", "(elem name=é-1.· 1)",
		"element a {attribute b {1}, element c {text {2}}}", "(elem name=a (seq (attr name=b 1) (elem name=c (text 2))))",
		"document {element a {}}/a", "(path (doc (elem name=a (seq))) (step child a))",
		"for $x in 1 return element a {$x}", "(flwor (for name=x 1) (elem name=a $x))",
		"-text {1}", "(neg (text 1))",
	)
	refuse(t, api.ErrSyntax,
		"element a", "element a b {1}", "element a:b {1}", "element {} {1}", "element {1}", "element {1} a", "element {1} (2)", "element a (1)", "element a {1", "element a {1}}", "element a {,}", "element a {1,}", "element 'a' {1}", "element $a {1}", "element (a) {1}", "element a {1} {2}", "element {1} {2} {3}", "element *{1}",
		"attribute a", "attribute {}{}", "attribute a:b {1}", "attribute {1}", "attribute @a {1}",
		"text a {1}", "text {1} {2}", "text {", "text (1)", "text {1;}", "comment a {1}", "comment {1}{2}", "document a {1}", "document {1}{2}", "document-node {1}", "node {1}", "processing-instruction a {1}", "namespace a {1}", "item {1}", "a {1}", "{1}", "{}", "fn:text {1}", "a:element b {1}",
	)
}
