package parse_test

import (
	"testing"

	"espalier/api"
)

// all holds texts to their trees: each text is followed by what show tells of it.
func all(t *testing.T, rows ...string) {
	t.Helper()
	for i := 0; i < len(rows); i += 2 {
		hold(t, rows[i], rows[i+1])
	}
}

func TestP111Examples(t *testing.T) {
	all(t,
		"1+2*3", "(add 1 (mul 2 3))",
		"a/b[1]", "(path (step child a) (filter (step child b) 1))",
		"(1,2),3", "(seq (seq 1 2) 3)",
		"for $x in (1) return $x", "(flwor (for name=x 1) $x)",
		`<a b="1{2}"> {3}</a>`, `(direct name=a (dirattr name=b ~"1" 2) 3)`,
	)
	refuse(t, api.ErrSyntax, "1 +", "a b", "<a>")
}

func TestP111Lists(t *testing.T) {
	all(t,
		"1", "1",
		"1,2", "(seq 1 2)",
		"1,2,3", "(seq 1 2 3)",
		"(1,2,3)", "(seq 1 2 3)",
		"1,(2,3)", "(seq 1 (seq 2 3))",
		"()", "(seq)",
		"(())", "(seq)",
		"(),()", "(seq (seq) (seq))",
		"((1))", "1",
		"((1),(2))", "(seq 1 2)",
		"for $x in 1 return 2,3", "(seq (flwor (for name=x 1) 2) 3)",
		"if (1) then 2 else 3,4", "(seq (if 1 2 3) 4)",
	)
	refuse(t, api.ErrSyntax, "", " ", "(::)", ",", "1,", ",1", "1,,2", "(", ")", "(1", "1)", "(1,)", "(,1)", "())", "1;", ";")
}

func TestP111Singles(t *testing.T) {
	all(t,
		"if (1) then 2 else 3", "(if 1 2 3)",
		"if (1,2) then () else (3,4)", "(if (seq 1 2) (seq) (seq 3 4))",
		"if (1) then if (2) then 3 else 4 else if (5) then 6 else 7", "(if 1 (if 2 3 4) (if 5 6 7))",
		"some $x in 1 satisfies 2", "(some name=x 1 2)",
		"every $x in 1 satisfies 2", "(every name=x 1 2)",
		"some $x in 1, $y in $x satisfies $y", "(some name=x 1 (some name=y $x $y))",
		"every $x in 1, $y in 2, $z in 3 satisfies 4", "(every name=x 1 (every name=y 2 (every name=z 3 4)))",
		"some $x in 1 satisfies some $y in 2 satisfies 3", "(some name=x 1 (some name=y 2 3))",
		"some $x in 1 satisfies every $y in 2 satisfies 3", "(some name=x 1 (every name=y 2 3))",
		"every $x in every $y in 1 satisfies 2, $z in 3 satisfies 4", "(every name=x (every name=y 1 2) (every name=z 3 4))",
		"typeswitch (1) case xs:integer return 2 default return 3", "(switch 1 (case <integer> 2) (case <any*> 3))",
		"typeswitch (1, 2) case $v as node()* return $v default $w return $w", "(switch (seq 1 2) (case name=v <node*> $v) (case name=w <any*> $w))",
		"typeswitch (1) case empty-sequence() return 2 case $v as item() return 3 case text()+ return 4 default return 5", "(switch 1 (case <none*> 2) (case name=v <any> 3) (case <text+> 4) (case <any*> 5))",
		"typeswitch (1) case item() return typeswitch (2) case item() return 3 default return 4 default return 5", "(switch 1 (case <any> (switch 2 (case <any> 3) (case <any*> 4))) (case <any*> 5))",
	)
	refuse(t, api.ErrSyntax,
		"if (1) then 2", "if (1) 2 else 3", "if () then 1 else 2", "if 1 then 2 else 3", "if (1) then 2 else", "if (1) then 2, 3 else 4", "if (1)", "if (1",
		"some $x in 1", "some $x satisfies 1", "some $x in 1, satisfies 2", "some $x in 1, 2 satisfies 3", "some $x in 1 every $y in 2 satisfies 3", "every $x in 1 return 2", "some $x at $y in 1 satisfies 2", "some x in 1 satisfies 2", "some $x in 1, some $y in 2 satisfies 3", "some $x as item() in 1 satisfies 2", "some $x := 1 satisfies 2",
		"typeswitch (1) default return 2", "typeswitch (1) case item() return 2", "typeswitch () case item() return 2 default return 3", "typeswitch (1) case $v item() return 2 default return 3", "typeswitch (1) case as item() return 2 default return 3", "typeswitch (1) case item() default return 3", "typeswitch (1) case item() return 2 default return 3 default return 4", "typeswitch (1) default return 2 case item() return 3", "typeswitch (1) case item() return 2 default $v as item() return 3", "typeswitch (1) case $v return 2 default return 3", "typeswitch (1) case 1 return 2 default return 3",
	)
}

func TestP111Flwors(t *testing.T) {
	all(t,
		"for $x in 1 return 2", "(flwor (for name=x 1) 2)",
		"for $x at $i in 1 return $i", "(flwor (for name=x at=i 1) $i)",
		"let $x := 1 return 2", "(flwor (let name=x 1) 2)",
		"for $x in 1, $y at $i in 2, $z in 3 return 4", "(flwor (for name=x 1) (for name=y at=i 2) (for name=z 3) 4)",
		"let $x := 1, $y := $x return 4", "(flwor (let name=x 1) (let name=y $x) 4)",
		"for $x in 1 for $y in 2 return 3", "(flwor (for name=x 1) (for name=y 2) 3)",
		"let $x := 1 let $y := 2 return 3", "(flwor (let name=x 1) (let name=y 2) 3)",
		"for $x in 1 let $y := 2, $z := 3 for $v in 4, $w in 5 let $u := 6 return 7", "(flwor (for name=x 1) (let name=y 2) (let name=z 3) (for name=v 4) (for name=w 5) (let name=u 6) 7)",
		"let $x := 1 for $y in 2 return 3", "(flwor (let name=x 1) (for name=y 2) 3)",
		"for $x in 1 where 2 return 3", "(flwor (for name=x 1) (where 2) 3)",
		"let $x := 1 order by 2 return 3", "(flwor (let name=x 1) (order 2) 3)",
		"for $x in 1 order by 2 ascending return 3", "(flwor (for name=x 1) (order 2) 3)",
		"for $x in 1 order by 2 descending return 3", "(flwor (for name=x 1) (order down 2) 3)",
		"for $x in 1, $y in 2 let $z := 3 where 4 order by 5 descending return 6", "(flwor (for name=x 1) (for name=y 2) (let name=z 3) (where 4) (order down 5) 6)",
		"for $x in 1 return for $y in 2 return 3", "(flwor (for name=x 1) (flwor (for name=y 2) 3))",
		"for $x in for $y in 1, $z in 2 return 3, $v in 4 return 5", "(flwor (for name=x (flwor (for name=y 1) (for name=z 2) 3)) (for name=v 4) 5)",
		"for $x in 1 where for $y in 2 return 3 order by for $z in 4 order by 5 return 6 descending return 7", "(flwor (for name=x 1) (where (flwor (for name=y 2) 3)) (order down (flwor (for name=z 4) (order 5) 6)) 7)",
		"let $x := if (1) then 2 else 3, $y := some $z in 1 satisfies 2 return 4", "(flwor (let name=x (if 1 2 3)) (let name=y (some name=z 1 2)) 4)",
		"for $x in (1, 2) return (3, 4)", "(flwor (for name=x (seq 1 2)) (seq 3 4))",
	)
	refuse(t, api.ErrSyntax,
		"for $x return 1", "for $x in 1", "for $x in return 1", "for $x in 1 return", "for $x in 1, return 2", "for $x in 1, 2 return 3", "for $x in 1, for $y in 2 return 3", "for $x in 1, let $y := 2 return 3", "for $x := 1 return 2", "for $x at 1 in 2 return 3", "for $x at $i at $j in 1 return 2", "for $x as item() in 1 return 2",
		"let $x = 1 return 2", "let $x in 1 return 2", "let $x at $i := 1 return 2", "let $x := 1, 2 return 3", "let $x := 1, for $y in 2 return 3", "let $x as item() := 1 return 2", "let $x := return 1",
		"where 1 return 2", "order by 1 return 2", "for $x in 1 where return 2", "for $x in 1 where 2 where 3 return 4", "for $x in 1 order by 2 where 3 return 4", "for $x in 1 order 2 return 3", "for $x in 1 by 2 return 3", "for $x in 1 order by return 2", "for $x in 1 order by 2, 3 return 4", "for $x in 1 order by 2 descending ascending return 3", "for $x in 1 order by 2 order by 3 return 4", "for $x in 1 where 2 for $y in 3 return 4", "for $x in 1 order by 2 let $y := 3 return 4", "for $x in 1 ascending return 2", "return 1", "for $x in 1 return 2 return 3", "for $x in 1 satisfies 2",
	)
}

func TestP111Modules(t *testing.T) {
	for s, want := range map[string]string{
		"declare variable $x := 1; 2":                                       "$x<any*>1;2",
		"declare variable $x as xs:integer? := 1; 2":                        "$x<integer?>1;2",
		"declare function f() {1}; 2":                                       "f!<any*>1;2",
		"declare function local:f($a) {$a}; 2":                              "local:f$a<any*>!<any*>$a;2",
		"declare function fn:f($a as node()+, $b) as text() {1, 2}; fn:g()": "fn:f$a<node+>$b<any*>!<text>(seq 1 2);(call name=g)",
		"declare function f() as empty-sequence() {()}; 1,2":                "f!<none*>(seq);(seq 1 2)",
		"declare variable $x:=if(1)then 2 else 3; declare function f($a,$b,$c){for $y in 1 return 2}; declare variable $y:=4; declare function g(){5}; declare function f(){6}; declare variable $x:=7; 8": "$x<any*>(if 1 2 3);$y<any*>4;$x<any*>7;" +
			"f$a<any*>$b<any*>$c<any*>!<any*>(flwor (for name=y 1) 2);g!<any*>5;f!<any*>6;8",
		"declare function declare($function, $declare) {variable}; declare variable $variable := function; declare": "$variable<any*>(step child function);declare$function<any*>$declare<any*>!<any*>(step child variable);(step child declare)",
		"declare function if($if) {1}; declare function a:b() {1}; 1":                                               "if$if<any*>!<any*>1;a:b!<any*>1;1",
		"declare variable $x as element(a)* := <a>;</a>; 1":                                                         `$x<elem:a*>(direct name=a ~";");1`,
		"declare function f() {<a>}}</a>}; 1":                                                                       `f!<any*>(direct name=a ~"}");1`,
	} {
		if got := showModule(taken(t, s)); got != want {
			t.Errorf("Parse(%q): %s; not %s", s, got, want)
		}
	}
	refuse(t, api.ErrSyntax,
		"declare variable $x := 1", "declare variable $x := 1;", "declare variable $x := 1 2", "declare variable $x := 1, 2; 3", "declare variable $x = 1; 2", "declare variable x := 1; 2", "declare variable $x as := 1; 2", "declare variable $x xs:integer := 1; 2", "declare variable := 1; 2", "declare variable $x := ; 2", "declare variable $x {1}; 2", "declare variable $x := 1;; 2", "declare variable",
		"declare function f() {1}", "declare function f() {1};", "declare function f() {1} 2", "declare function f() {}; 1", "declare function f {1}; 2", "declare function f($a,) {1}; 2", "declare function f(,) {1}; 2", "declare function f(a) {1}; 2", "declare function f($a $b) {1}; 2", "declare function f($a := 1) {1}; 2", "declare function $f() {1}; 2", "declare function f() 1; 2", "declare function f() as {1}; 2", "declare function f() := 1; 2", "declare function () {1}; 2", "declare function f(($a)) {1}; 2", "declare function f() {1,}; 2", "declare function",
		"1; declare variable $x := 1; 2", "1 declare variable $x := 1; 2", "declare $x := 1; 2", "variable $x := 1; 2", "declare namespace a := 1; 2", "(declare variable $x := 1; 2)",
	)
}
