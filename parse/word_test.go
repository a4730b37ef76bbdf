package parse_test

import (
	"strings"
	"testing"

	"espalier/api"
)

// reserved are all words of the grammar, none of which is reserved.
var reserved = strings.Fields("declare variable as function for at in let where order by ascending descending return some every satisfies typeswitch case default if then else or and eq ne lt le gt ge is to div idiv mod union intersect except instance of treat castable cast child descendant attribute self descendant-or-self following-sibling parent ancestor preceding-sibling ancestor-or-self node text comment document-node element document empty-sequence item fn xs")

// Each word is a name: of an element in a step, of an attribute, of a variable, of a function that is declared, of what is made.
func TestP111WordsAsNames(t *testing.T) {
	for _, w := range reserved {
		s := "(step child " + w + ")"
		all(t,
			w, s,
			"("+w+")", s,
			w+"/"+w, "(path "+s+" "+s+")",
			"/"+w, "(path (root) "+s+")",
			"//"+w+"//"+w, "(path (path (path (path (root) "+below+") "+s+") "+below+") "+s+")",
			w+"["+w+"]", "(filter "+s+" "+s+")",
			w+","+w, "(seq "+s+" "+s+")",
			"@"+w, "(step attribute "+w+")",
			"child::"+w, "(step child "+w+")",
			"self::"+w, "(step self "+w+")",
			"element("+w+")", "(step child element("+w+"))",
			"$"+w, "$"+w,
			"for $"+w+" at $"+w+" in "+w+" return "+w, "(flwor (for name="+w+" at="+w+" "+s+") "+s+")",
			"let $"+w+" := "+w+" where "+w+" order by "+w+" descending return "+w, "(flwor (let name="+w+" "+s+") (where "+s+") (order down "+s+") "+s+")",
			"some $"+w+" in "+w+" satisfies "+w, "(some name="+w+" "+s+" "+s+")",
			"if ("+w+") then "+w+" else "+w, "(if "+s+" "+s+" "+s+")",
			"typeswitch ("+w+") case $"+w+" as element("+w+") return "+w+" default $"+w+" return "+w, "(switch "+s+" (case name="+w+" <elem:"+w+"> "+s+") (case name="+w+" <any*> "+s+"))",
			w+" instance of item()", "(instance <any> "+s+")",
			w+" cast as xs:integer", "(cast <integer> "+s+")",
			"element "+w+" {"+w+"}", "(elem name="+w+" "+s+")",
			"attribute "+w+" {"+w+"}", "(attr name="+w+" "+s+")",
			"<"+w+" "+w+"='{"+w+"}'>{"+w+"}</"+w+">", "(direct name="+w+" (dirattr name="+w+" "+s+") "+s+")",
			"declare variable $"+w+" := "+w+"; "+w, "$"+w+"<any*>"+s+";"+s,
			"declare function "+w+"($"+w+") {"+w+"}; "+w, w+"$"+w+"<any*>!<any*>"+s+";"+s,
			"declare function "+w+":"+w+"() {"+w+"}; "+w, w+":"+w+"!<any*>"+s+";"+s,
			"x:"+w+"("+w+")", "(call name=x:"+w+" "+s+")",
			w+":x("+w+")", "(call name="+strings.TrimPrefix(w+":x", "fn:")+" "+s+")",
			"fn:"+w+"("+w+")", "(call name="+w+" "+s+")",
			"-"+w, "(neg "+s+")",
		)
		refuse(t, api.ErrSyntax, w+" "+w, w+" 1", "1 "+w, w+" $x", w+" 'a'", w+"(", w+":", w+"::", w+"::a::a", w+" a")
	}
}

// Each word stands on both sides of each operator's word.
func TestP111WordsAsOperands(t *testing.T) {
	for level := range levels {
		each(level, func(op, name string) {
			for _, w := range reserved {
				s := "(step child " + w + ")"
				hold(t, w+" "+op+" "+w, "("+name+" "+s+" "+s+")")
			}
		})
	}
	hold(t, "and and and", "(and (step child and) (step child and))")
	hold(t, "div div div div div", "(div (div (step child div) (step child div)) (step child div))")
	hold(t, "to to to, eq eq eq", "(seq (range (step child to) (step child to)) (veq (step child eq) (step child eq)))")
	hold(t, "instance instance of item()", "(instance <any> (step child instance))")
	hold(t, "cast cast as xs:integer castable as xs:integer treat as item()", "(treat <any> (castable <integer> (cast <integer> (step child cast))))")
}

// Each word ahead of a ( calls a function, but the tests; ahead of what makes it a word it is that.
func TestP111WordsAheadOfSigns(t *testing.T) {
	special := map[string]string{"if": "", "typeswitch": "", "node": "(step child node())", "text": "(step child text())", "comment": "(step child comment())", "document-node": "(step child document-node())", "element": "(step child element())", "attribute": "(step attribute attribute())"}
	for _, w := range reserved {
		want, ok := special[w]
		if !ok {
			all(t, w+"()", "(call name="+w+")", w+" (1)", "(call name="+w+" 1)", "a/"+w+"(1)", "(path (step child a) (call name="+w+" 1))", "1+"+w+"(2,3)", "(add 1 (call name="+w+" 2 3))")
			continue
		}
		if want == "" {
			refuse(t, api.ErrSyntax, w+"()", w+"(1)")
			all(t, "1+"+w+"()", "(add 1 (call name="+w+"))", "a/"+w+"(1)", "(path (step child a) (call name="+w+" 1))", "-"+w+"(1)", "(neg (call name="+w+" 1))")
			continue
		}
		all(t, w+"()", want, w+" ( )", want, "a/"+w+"()", "(path (step child a) "+want+")", "1+"+w+"()", "(add 1 "+want+")")
		refuse(t, api.ErrSyntax, w+"(1)", w+"(1,2)", "a/"+w+"(1)", "1+"+w+"($x)")
	}
	for _, w := range reserved {
		if !strings.Contains(" element attribute text comment document ", " "+w+" ") {
			refuse(t, api.ErrSyntax, w+" {1}", w+" {}", w+" a {1}", w+" {1} {2}")
		}
		if !strings.Contains(" for let some every ", " "+w+" ") {
			refuse(t, api.ErrSyntax, w+" $x in 1 return 2", w+" $x := 1 return 2", w+" $x in 1 satisfies 2")
		}
		if w != "declare" {
			refuse(t, api.ErrSyntax, w+" variable $x := 1; 2", w+" function f() {1}; 2")
		}
		if !strings.Contains(strings.Join(axisNames, " "), w) {
			refuse(t, api.ErrSyntax, w+"::a", w+"::*", w+"::node()")
		}
	}
	all(t,
		"for", "(step child for)",
		"for[1]", "(filter (step child for) 1)",
		"for + $x", "(add (step child for) $x)",
		"some(1)", "(call name=some 1)",
		"every/x", "(path (step child every) (step child x))",
		"declare", "(step child declare)",
		"declare/variable", "(path (step child declare) (step child variable))",
		"declare()", "(call name=declare)",
		"text", "(step child text)",
		"text/text()", "(path (step child text) (step child text()))",
		"attribute::attribute", "(step attribute attribute)",
		"attribute::attribute()", "(step attribute attribute())",
		"element/element()/element element {element}", "(path (path (step child element) (step child element())) (elem name=element (step child element)))",
		"element div element {1}{2}", "(div (step child element) (elem 1 2))",
		"element div 1", "(div (step child element) 1)",
		"document[1]", "(filter (step child document) 1)",
		"document-node", "(step child document-node)",
		"if/then", "(path (step child if) (step child then))",
		"if (if) then then else else", "(if (step child if) (step child then) (step child else))",
		"for $for in for return return", "(flwor (for name=for (step child for)) (step child return))",
		"some $some in some satisfies satisfies", "(some name=some (step child some) (step child satisfies))",
		"typeswitch (case) case $case as item() return default default $default return case", "(switch (step child case) (case name=case <any> (step child default)) (case name=default <any*> (step child case)))",
	)
	refuse(t, api.ErrSyntax, "for for $x in 1 return 2", "let :=", "typeswitch (1) case case() return 2 default return 3", "if (if) if then else else", "some some $x in 1 satisfies 2")
}
