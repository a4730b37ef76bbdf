package parse_test

import (
	"strings"
	"testing"

	"espalier/api"
)

// levels are the grammar's operators from the weakest on, each row with the words of one strength and what show tells of them.
var levels = [][]string{
	{"or", "or"},
	{"and", "and"},
	{"eq", "veq", "ne", "vne", "lt", "vlt", "le", "vle", "gt", "vgt", "ge", "vge", "=", "geq", "!=", "gne", "<", "glt", "<=", "gle", ">", "ggt", ">=", "gge", "is", "is", "<<", "before", ">>", "after"},
	{"to", "range"},
	{"+", "add", "-", "sub"},
	{"*", "mul", "div", "div", "idiv", "idiv", "mod", "mod"},
	{"union", "union", "|", "union"},
	{"intersect", "inter", "except", "except"},
}

// single tells whether operators of a level stand alone between their operands.
func single(level int) bool { return level == 2 || level == 3 }

// each goes through the operators of a level.
func each(level int, do func(word, name string)) {
	for i := 0; i < len(levels[level]); i += 2 {
		do(levels[level][i], levels[level][i+1])
	}
}

func TestP111Operators(t *testing.T) {
	for level := range levels {
		each(level, func(w, n string) {
			all(t,
				"1 "+w+" 2", "("+n+" 1 2)",
				"(1 "+w+" 2) "+w+" 3", "("+n+" ("+n+" 1 2) 3)",
				"1 "+w+" (2 "+w+" 3)", "("+n+" 1 ("+n+" 2 3))",
				"a "+w+" b", "("+n+" (step child a) (step child b))",
				"(1,2) "+w+" ()", "("+n+" (seq 1 2) (seq))",
				"-1 "+w+" -2", "("+n+" (neg 1) (neg 2))",
			)
			refuse(t, api.ErrSyntax, "1 "+w, "1 "+w+" "+w+"x 2", "(1 "+w+")", "1 "+w+", 2", "1 "+w+" if (1) then 2 else 3", "1 "+w+" for $x in 1 return 2")
		})
	}
}

func TestP111OperatorsTwice(t *testing.T) {
	for level := range levels {
		each(level, func(w, n string) {
			each(level, func(w2, n2 string) {
				s := "1 " + w + " 2 " + w2 + " 3"
				if single(level) {
					refuse(t, api.ErrSyntax, s, s+" "+w+" 4")
					return
				}
				all(t, s, "("+n2+" ("+n+" 1 2) 3)", s+" "+w+" 4", "("+n+" ("+n2+" ("+n+" 1 2) 3) 4)")
			})
		})
	}
}

// Each operator beside each stronger one, to the left and to the right, and between two of them.
func TestP111OperatorsOfTwoLevels(t *testing.T) {
	for weak := range levels {
		for strong := weak + 1; strong < len(levels); strong++ {
			each(weak, func(w, n string) {
				each(strong, func(w2, n2 string) {
					left, right := "("+n2+" 1 2)", "("+n2+" 3 4)"
					all(t,
						"1 "+w2+" 2 "+w+" 3", "("+n+" "+left+" 3)",
						"1 "+w+" 3 "+w2+" 4", "("+n+" 1 "+right+")",
						"1 "+w2+" 2 "+w+" 3 "+w2+" 4", "("+n+" "+left+" "+right+")",
						"1 "+w2+" (2 "+w+" 3)", "("+n2+" 1 ("+n+" 2 3))",
						"(2 "+w+" 3) "+w2+" 4", "("+n2+" ("+n+" 2 3) 4)",
					)
				})
			})
		}
	}
}

// The operators that stand alone, with others between and around them.
func TestP111OperatorsAlone(t *testing.T) {
	all(t,
		"1 = 2 to 3", "(geq 1 (range 2 3))",
		"1 to 2 = 3 to 4", "(geq (range 1 2) (range 3 4))",
		"1 = 2 and 3 = 4 or 5 to 6 < 7", "(or (and (geq 1 2) (geq 3 4)) (glt (range 5 6) 7))",
		"1 + 2 to 3 + 4", "(range (add 1 2) (add 3 4))",
		"(1 to 2) to 3", "(range (range 1 2) 3)",
		"1 = (2 = 3)", "(geq 1 (geq 2 3))",
	)
	refuse(t, api.ErrSyntax, "1 = 2 to 3 to 4", "1 to 2 to 3 = 4", "1 = 2 to 3 = 4", "1 to 2 = 3 to 4 = 5", "1 to 2 + 3 to 4", "1 = 2 + 3 = 4", "1 or 2 = 3 = 4", "1 or 2 to 3 to 4", "1 = 2 + 3 to 4 to 5", "1 and 2 eq 3 ne 4 and 5")
}

func TestP111Signs(t *testing.T) {
	all(t,
		"-1", "(neg 1)",
		"+1", "1",
		"- - 1", "(neg (neg 1))",
		"--1", "(neg (neg 1))",
		"+ -1", "(neg 1)",
		"-+1", "(neg 1)",
		"-+-+-+1", "(neg (neg (neg 1)))",
		"1 - 1", "(sub 1 1)",
		"1-1", "(sub 1 1)",
		"1--1", "(sub 1 (neg 1))",
		"1 - - -1", "(sub 1 (neg (neg 1)))",
		"1 + +1", "(add 1 1)",
		"-1 + -2", "(add (neg 1) (neg 2))",
		"-1 idiv 2", "(idiv (neg 1) 2)",
		"2 * -3", "(mul 2 (neg 3))",
		"-a/b", "(neg (path (step child a) (step child b)))",
		"-a[1]", "(neg (filter (step child a) 1))",
		"-(1 + 2)", "(neg (add 1 2))",
		"-1 to -2", "(range (neg 1) (neg 2))",
		"a -1", "(sub (step child a) 1)",
		"a-1", "(step child a-1)",
		"a - b", "(sub (step child a) (step child b))",
		"$a -1", "(sub $a 1)",
		"-a-1", "(neg (step child a-1))",
		"-/", "(neg (root))",
		"-/a", "(neg (path (root) (step child a)))",
		"-1 cast as xs:string", "(cast <string> (neg 1))",
		"-(1 cast as xs:string)", "(neg (cast <string> 1))",
	)
	refuse(t, api.ErrSyntax, "-", "+", "1 -", "- +", "a- 1", "1 * / -1 2", "(-)", "a/-b", "a[-]", "--", "-if (1) then 2 else 3", "* - ")
}

func TestP111Typed(t *testing.T) {
	all(t,
		"1 instance of xs:integer", "(instance <integer> 1)",
		"1 treat as node()", "(treat <node> 1)",
		"1 cast as xs:string", "(cast <string> 1)",
		"1 cast as xs:string?", "(cast <string?> 1)",
		"1 castable as xs:string", "(castable <string> 1)",
		"1 castable as xs:string ?", "(castable <string?> 1)",
		"1 castable as xs:anyAtomicType", "(castable <atomic> 1)",
		"1 instance of xs:anyAtomicType", "(instance <atomic> 1)",
		"1 cast as xs:integer? castable as xs:decimal treat as item()+ instance of item()*", "(instance <any*> (treat <any+> (castable <decimal> (cast <integer?> 1))))",
		"1 treat as item() instance of item()", "(instance <any> (treat <any> 1))",
		"(1 instance of item()) cast as xs:boolean", "(cast <boolean> (instance <any> 1))",
		"1 intersect 2 instance of item()", "(inter 1 (instance <any> 2))",
		"1 instance of item() intersect 2", "(inter (instance <any> 1) 2)",
		"1 instance of item()? - 2", "(sub (instance <any?> 1) 2)",
		"1 instance of xs:integer* * 2", "(mul (instance <integer*> 1) 2)",
		"1 instance of xs:integer+ + 2", "(add (instance <integer+> 1) 2)",
		"1 instance of xs:integer - 2", "(sub (instance <integer> 1) 2)",
		"1 instance of empty-sequence() + 2", "(add (instance <none*> 1) 2)",
		"1 instance of empty-sequence() * 2", "(mul (instance <none*> 1) 2)",
		"1 cast as xs:integer + 2", "(add (cast <integer> 1) 2)",
		"1 cast as xs:integer * 2", "(mul (cast <integer> 1) 2)",
		"1 castable as xs:integer * 2", "(mul (castable <integer> 1) 2)",
		"(1 instance of xs:integer) + 2", "(add (instance <integer> 1) 2)",
		"3 * (1 treat as xs:integer) * 2", "(mul (mul 3 (treat <integer> 1)) 2)",
		"a instance of element(a)", "(instance <elem:a> (step child a))",
		"a[1] treat as element(a)", "(treat <elem:a> (filter (step child a) 1))",
		"1 + 2 cast as xs:string", "(add 1 (cast <string> 2))",
		"1 cast as xs:integer = 2", "(geq (cast <integer> 1) 2)",
	)
	refuse(t, api.ErrSyntax,
		"1 instance of item() instance of item()", "1 treat as item() treat as item()", "1 cast as xs:integer cast as xs:integer", "1 castable as xs:integer castable as xs:integer", "1 castable as xs:integer cast as xs:integer", "1 treat as item() cast as xs:integer", "1 instance of item() treat as item()", "1 treat as item() castable as xs:integer",
		"1 cast as xs:anyAtomicType", "1 cast as xs:anyAtomicType?", "1 cast as xs:integer*", "1 cast as xs:integer+", "1 castable as xs:integer*", "1 cast as item()", "1 cast as node()", "1 castable as element(a)", "1 cast as empty-sequence()", "1 cast as xs:float", "1 cast as integer", "1 cast xs:integer", "1 cast as", "1 castable as", "1 castable xs:integer", "1 treat as", "1 treat item()", "1 treat of item()", "1 instance item()", "1 instance as item()", "1 instance of", "1 instance of 2", "instance of item()", "1 cast of xs:integer",
		"1 instance of xs:integer + 2", "1 instance of xs:integer * 2", "1 treat as node() + 2", "1 treat as node() * 2",
	)
}

func TestP111Types(t *testing.T) {
	for s, want := range map[string]string{
		"xs:integer": "integer", "xs:decimal": "decimal", "xs:string": "string", "xs:boolean": "boolean", "xs:untypedAtomic": "untyped", "xs:anyAtomicType": "atomic",
		"item()": "any", "node()": "node", "text()": "text", "comment()": "com", "document-node()": "doc",
		"element()": "elem", "element(*)": "elem", "element(a)": "elem:a", "element(element)": "elem:element", "element ( é-1. )": "elem:é-1.",
		"attribute()": "attr", "attribute(*)": "attr", "attribute(a)": "attr:a", "attribute(:r:)(: s :)( * )": "attr",
	} {
		for mark, how := range map[string]string{"": "", "?": "?", " *": "*", "+": "+", "(::)?": "?"} {
			all(t,
				"1 instance of "+s+mark, "(instance <"+want+how+"> 1)",
				"1 treat as "+s+mark, "(treat <"+want+how+"> 1)",
				"declare variable $x as "+s+mark+" := 1; 2", "$x<"+want+how+">1;2",
				"declare function f($x as "+s+mark+") as "+s+mark+" {1}; 2", "f$x<"+want+how+">!<"+want+how+">1;2",
				"typeswitch (1) case "+s+mark+" return 2 case $v as "+s+mark+" return 3 default return 4", "(switch 1 (case <"+want+how+"> 2) (case name=v <"+want+how+"> 3) (case <any*> 4))",
			)
		}
	}
	hold(t, "1 instance of empty-sequence ( )", "(instance <none*> 1)")
	for _, s := range strings.Split("xs:integer()|xs:int|integer|item|item(a)|item(*)|node|node(a)|node(*)|text|text(a)|comment(1)|document-node(a)|document-node(element())|element|element(1)|element(a:b)|element(a, b)|element(a b)|element(a*)|element(xs:integer)|element($a)|element(@a)|element(.)|element(|attribute(a|attribute|empty-sequence|empty-sequence()?|empty-sequence()*|empty-sequence()+|empty-sequence(item())|xs:integer??|xs:integer?*|xs:integer++|xs:integer *?|*|@a|a|()|1|?|xs :integer|xs: integer|a::b|fn:item()|document()|element{}", "|") {
		refuse(t, api.ErrSyntax, "1 instance of "+s, "1 treat as "+s, "declare variable $x as "+s+" := 1; 2", "declare function f($x as "+s+") {1}; 2", "declare function f() as "+s+" {1}; 2", "typeswitch (1) case "+s+" return 2 default return 3")
	}
}
