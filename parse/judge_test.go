package parse_test

import (
	"regexp"
	"slices"
	"strings"
	"testing"

	"espalier/api"
	"espalier/lex"
	"espalier/parse"
)

// The chapter's grammar once more: [ ] what may be left out, { } what may stand any number of times, | the first that fits, ! what may not stand next. Of words that could begin two things the one that the chapter prefers goes ahead.
const grammar = `
Module = { Global | Function } Expr End
Global = "declare" "variable" Var As ":=" Single ";"
Function = "declare" "function" Name "(" [ Param { "," Param } ] ")" As "{" Expr "}" ";"
Param = Var As
As = [ "as" Type ]
Expr = Single { "," Single }
Single = Flwor | Some | Switch | If | ! Head Or
Head = ( "typeswitch" | "if" ) "("
Flwor = Clause { Clause } [ "where" Single ] [ "order" "by" Single [ "ascending" | "descending" ] ] "return" Single
Clause = "for" For { "," For } | "let" Let { "," Let }
For = Var [ "at" Var ] "in" Single
Let = Var ":=" Single
Some = ( "some" | "every" ) In { "," In } "satisfies" Single
In = Var "in" Single
Switch = "typeswitch" "(" Expr ")" Case { Case } "default" [ Var ] "return" Single
Case = "case" [ Var "as" ] Type "return" Single
If = "if" "(" Expr ")" "then" Single "else" Single
Or = And { "or" And }
And = Compare { "and" Compare }
Compare = Range [ ( "eq" | "ne" | "lt" | "le" | "gt" | "ge" | "=" | "!=" | "<" | "<=" | ">" | ">=" | "is" | "<<" | ">>" ) Range ]
Range = Sum [ "to" Sum ]
Sum = Product { ( "+" | "-" ) Product }
Product = Union { ( "*" | "div" | "idiv" | "mod" ) Union }
Union = Inter { ( "union" | "|" ) Inter }
Inter = Instance { ( "intersect" | "except" ) Instance }
Instance = Treat [ "instance" "of" Type ]
Treat = Castable [ "treat" "as" Type ]
Castable = Cast [ "castable" "as" ( CastType | "xs:anyAtomicType" ) [ "?" ] ]
Cast = Unary [ "cast" "as" CastType [ "?" ] ]
Unary = { "+" | "-" } Path
Path = "/" ! Begin | [ "/" | "//" ] StepExpr { ( "/" | "//" ) StepExpr }
Begin = ".." | "@" | "*" | "." | "(" | Name | Var | Int | Dec | Str | Tag
StepExpr = ( Primary | Axis ) { "[" Expr "]" }
Axis = ".." | "@" Test | AxisName "::" Test | Test
AxisName = "child" | "descendant" | "attribute" | "self" | "descendant-or-self" | "following-sibling" | "parent" | "ancestor" | "preceding-sibling" | "ancestor-or-self"
Test = Kind | Plain | "*"
Kind = ( "node" | "text" | "comment" | "document-node" ) "(" ")" | Named "(" [ Plain | "*" ] ")"
Named = "element" | "attribute"
KindWord = ( Named | "node" | "text" | "comment" | "document-node" ) "("
Primary = Int | Dec | Str | Var | "." | "(" [ Expr ] ")" | ! KindWord Name "(" [ Single { "," Single } ] ")" | Computed | Direct
Computed = Named ( Plain | "{" Expr "}" ) "{" [ Expr ] "}" | ( "text" | "comment" | "document" ) "{" [ Expr ] "}"
Type = "empty-sequence" "(" ")" | ItemType [ "?" | "*" | "+" ]
ItemType = CastType | "xs:anyAtomicType" | "item" "(" ")" | Kind
CastType = "xs:integer" | "xs:decimal" | "xs:string" | "xs:boolean" | "xs:untypedAtomic"
`

// judge reads a text by the grammar: each reader tells where what it reads ends, or -1.
type judge struct {
	s      string
	tokens map[int]api.Token
	rules  map[string]reading
}

type reading func(j *judge, at int) int

// rules are the readings of the grammar's rows.
var rules = func() map[string]reading {
	all := map[string]reading{"End": kindOf(api.TokEnd), "Name": kindOf(api.TokName), "Var": kindOf(api.TokVar), "Int": kindOf(api.TokInt), "Dec": kindOf(api.TokDec), "Str": kindOf(api.TokStr), "Plain": plainName, "Tag": tag, "Direct": direct}
	for _, row := range strings.Split(strings.TrimSpace(grammar), "\n") {
		name, form, _ := strings.Cut(row, " = ")
		r, left := choice(strings.Fields(form))
		if len(left) > 0 {
			panic(row)
		}
		all[name] = r
	}
	return all
}()

// choice makes the reading of what stands up to a closing sign, or the end: the first that fits.
func choice(form []string) (reading, []string) {
	var all []reading
	for {
		var r reading
		r, form = row(form)
		all = append(all, r)
		if len(form) == 0 || form[0] != "|" {
			break
		}
		form = form[1:]
	}
	return func(j *judge, at int) int {
		for _, r := range all {
			if end := r(j, at); end >= 0 {
				return end
			}
		}
		return -1
	}, form
}

// row makes the reading of things one behind the other.
func row(form []string) (reading, []string) {
	var all []reading
	for len(form) > 0 && !slices.Contains([]string{"|", "]", "}", ")"}, form[0]) {
		var r reading
		r, form = thing(form)
		all = append(all, r)
	}
	return func(j *judge, at int) int {
		for _, r := range all {
			if at = r(j, at); at < 0 {
				return -1
			}
		}
		return at
	}, form
}

// thing makes the reading of one thing.
func thing(form []string) (reading, []string) {
	first, form := form[0], form[1:]
	var r reading
	switch first {
	case "[":
		r, form = choice(form)
		return func(j *judge, at int) int { return max(at, r(j, at)) }, form[1:]
	case "{":
		r, form = choice(form)
		return func(j *judge, at int) int {
			for end := r(j, at); end >= 0; end = r(j, at) {
				at = end
			}
			return at
		}, form[1:]
	case "(":
		r, form = choice(form)
		return r, form[1:]
	case "!":
		r, form = thing(form)
		return func(j *judge, at int) int {
			if r(j, at) >= 0 {
				return -1
			}
			return at
		}, form
	}
	if word := strings.Trim(first, `"`); word != first {
		return func(j *judge, at int) int {
			if t := j.token(at); t.Text == word && (t.Kind == api.TokName || t.Kind == api.TokPunct) {
				return t.End
			}
			return -1
		}, form
	}
	return func(j *judge, at int) int { return j.rules[first](j, at) }, form
}

// token is the one from a place on, or one of a kind that is none.
func (j *judge) token(at int) api.Token {
	t, ok := j.tokens[at]
	if !ok {
		var e api.Errno
		if t, e = lex.Next(j.s, at); e != api.OK {
			t.Kind = -1
		}
		j.tokens[at] = t
	}
	return t
}

func kindOf(kind api.TokKind) reading {
	return func(j *judge, at int) int {
		if t := j.token(at); t.Kind == kind {
			return t.End
		}
		return -1
	}
}

func plainName(j *judge, at int) int {
	if t := j.token(at); t.Kind == api.TokName && !strings.Contains(t.Text, ":") {
		return t.End
	}
	return -1
}

const plainForm = `[A-Za-z_\x{C0}-\x{D6}\x{D8}-\x{F6}\x{F8}-\x{10FFFF}][A-Za-z_\x{C0}-\x{D6}\x{D8}-\x{F6}\x{F8}-\x{10FFFF}0-9.\x{B7}-]*`

var (
	tagForm   = regexp.MustCompile(`^<(` + plainForm + `)`)
	attrForm  = regexp.MustCompile(`^[ \t\r\n]+(` + plainForm + `)[ \t\r\n]*=[ \t\r\n]*(["'])`)
	closeForm = regexp.MustCompile(`^[ \t\r\n]*(/?>)`)
	endForm   = regexp.MustCompile(`^</(` + plainForm + `)[ \t\r\n]*>`)
)

// tag tells whether a Direct may begin.
func tag(j *judge, at int) int {
	t := j.token(at)
	if t.Kind == api.TokPunct && tagForm.MatchString(j.s[t.At:]) {
		return t.End
	}
	return -1
}

func direct(j *judge, at int) int {
	if tag(j, at) < 0 {
		return -1
	}
	return j.direct(j.token(at).At)
}

// direct reads a Direct from right there on.
func (j *judge) direct(at int) int {
	m := tagForm.FindStringSubmatch(j.s[at:])
	if m == nil {
		return -1
	}
	at += len(m[0])
	seen := map[string]bool{}
	for a := attrForm.FindStringSubmatch(j.s[at:]); a != nil; a = attrForm.FindStringSubmatch(j.s[at:]) {
		if at = j.value(at+len(a[0]), a[2]); at < 0 || seen[a[1]] {
			return -1
		}
		seen[a[1]] = true
	}
	c := closeForm.FindStringSubmatch(j.s[at:])
	if c == nil {
		return -1
	}
	at += len(c[0])
	if c[1] == "/>" {
		return at
	}
	for {
		var e api.Errno
		if _, _, at, e = lex.Content(j.s, at); e != api.OK {
			return -1
		}
		if end := endForm.FindStringSubmatch(j.s[at:]); end != nil {
			if end[1] != m[1] {
				return -1
			}
			return at + len(end[0])
		}
		if strings.HasPrefix(j.s[at:], "{") {
			at = j.braces(at)
		} else {
			at = j.direct(at)
		}
		if at < 0 {
			return -1
		}
	}
}

// value reads an attribute's value, and the quote behind it.
func (j *judge) value(at int, quote string) int {
	for {
		_, end, e := lex.Value(j.s, at, quote[0])
		if e != api.OK {
			return -1
		}
		if strings.HasPrefix(j.s[end:], quote) {
			return end + 1
		}
		if at = j.braces(end); at < 0 {
			return -1
		}
	}
}

// braces reads an expression in braces that stand right there.
func (j *judge) braces(at int) int {
	if !strings.HasPrefix(j.s[at:], "{") {
		return -1
	}
	if at = j.rules["Expr"](j, at+1); at < 0 || j.token(at).Text != "}" || j.token(at).Kind != api.TokPunct {
		return -1
	}
	return j.token(at).End
}

// isQuery tells whether a text is a query by the grammar.
func isQuery(s string) bool {
	j := judge{s, map[int]api.Token{}, rules}
	return rules["Module"](&j, 0) >= 0
}

// counts is how often Parse took a text, and how often it didn't.
type counts map[bool]int

// judged holds Parse to the judge, and what it takes to P11.2.
func (c counts) judged(t *testing.T, s string) {
	t.Helper()
	want := isQuery(s)
	c[want]++
	m, e := parse.Parse(s)
	if e != api.OK && e != api.ErrSyntax || e == api.OK != want || e != api.OK && !same(m, api.Module{}) {
		t.Fatalf("Parse(%q): %v, %s; the judge says %v", s, e, short(showModule(m)), want)
	}
	if want {
		back(t, s, m)
	}
}

// both asks for as many texts that were taken and as many that were not.
func (c counts) both(t *testing.T, taken, others int) {
	t.Helper()
	if c[true] < taken || c[false] < others {
		t.Errorf("of what was judged too little was taken, or too little wasn't: %v", c)
	}
}

// rows goes through the rows of up to so many of these words, with that between.
func rows(most int, between string, words []string, do func(row string)) {
	do("")
	if most > 0 {
		for _, w := range words {
			rows(most-1, between, words, func(row string) { do(w + between + row) })
		}
	}
}

func TestP111Rows(t *testing.T) {
	for _, words := range []string{
		"1 a + - * / // ( ) , [ ] to =",
		"/ // a * .. . @ :: child x:y ( )",
		"a text element node ( ) * { } attribute ::",
		"instance of treat as cast castable xs:integer ? * + a",
		"1 < <= << = and or union | - (",
		"f if ( ) then else 1 , typeswitch",
		"$x for in return 1 , let := where",
		"$x some every in satisfies 1 , (",
		"declare variable function $x := 1 ; ( ) { }",
		"element text { } a b 1 , document",
	} {
		c := counts{}
		rows(4, " ", strings.Fields(words), func(row string) { c.judged(t, row) })
		c.both(t, 10, 1000)
	}
}

// Longer rows of the words that matter most to one another.
func TestP111LongRows(t *testing.T) {
	for _, words := range []string{"/ a * (", "- 1 a", "/ < a", "( ) , 1", "a [ ] /", "$x , in for", "text { }", "element { } a", "if ( ) then", "1 to = +", "element ( ) *"} {
		c := counts{}
		rows(7, " ", strings.Fields(words), func(row string) { c.judged(t, row) })
		c.both(t, 1, 1000)
	}
}

func TestP111RowsInDirects(t *testing.T) {
	c := counts{}
	rows(4, "", []string{"<a", ">", "</a", "/>", " ", "x", "=", "'", "{", "}", "1", "&lt;", "<"}, func(row string) { c.judged(t, "<a"+row) })
	rows(4, "", []string{"<a>", "</a>", "<b/>", "{", "}", "1", " ", "<", "&", "(:"}, func(row string) { c.judged(t, "<a>"+row+"</a>") })
	rows(5, "", []string{"'", `"`, "{", "}", "1", "<", "x"}, func(row string) { c.judged(t, "<a b='"+row+"'/>") })
	rows(5, "", []string{" ", "x", "y", "=", "'1'", "/"}, func(row string) { c.judged(t, "<a"+row+">") })
	rows(5, "", []string{" ", "x", "y", "=", "'1'", "\t\r\n"}, func(row string) { c.judged(t, "<a "+row+"/>") })
	rows(5, "", []string{"<a/>", "<", "a", "/", ">", "1"}, func(row string) { c.judged(t, row) })
	c.both(t, 500, 10000)
}

// samples are queries in which each thing of the grammar stands.
var samples = []string{
	"declare variable $g as xs:integer+ := 1; declare function local:f($a, $b as element(x)?) as node() {$a, 1}; local:f(1, 2)",
	"for $x at $i in (1, 2), $y in a where $x = 1 order by $i descending return ($x, $y)",
	"let $x := 1, $y := 2 for $z in 3 return -1 + -$x * 2",
	"some $x in 1, $y in 2 satisfies every $z in 3 satisfies 4",
	"typeswitch (a) case $v as item()* return 1 case empty-sequence() return 2 default $w return 3",
	"if (a) then 1 else if (b, c) then 2 else ()",
	"1 cast as xs:integer? castable as xs:decimal treat as item()+ instance of element(*)",
	"//a[1]/@b[. = 'c']/../text()[last()]//child::node()/self::* | /descendant::x except $y",
	"element a {attribute {b} {1}, text {}, comment {2}, document {<a/>}}",
	"<a b=\"1{2}\" c = 'x'> {{ {3}<b>t</b>{<c d='{4, 5}'/>}&lt; </a>/b = 1",
	"a to b + c - 1 div 2 is 3 and 4 or 5 << 6",
}

// Each token and each byte of a query is cut out, doubled, and made something else, by turns.
func TestP111Changed(t *testing.T) {
	c := counts{}
	for _, s := range samples {
		c.judged(t, s)
		for i := range len(s) {
			for _, w := range []string{"", "a", "1", ".", ":", "(", ")", "$", " ", "-", "=", "'", "\"", "<", ">", "/", "{", "}", ",", ";", "*", "[", "]", "(::)", "@", " for ", " return ", " text ", "?", "&", "<a/>"} {
				c.judged(t, s[:i]+w+s[i:])
				c.judged(t, s[:i]+w+s[i+1:])
			}
		}
	}
	c.both(t, 1000, 10000)
}

func TestP111WordsChanged(t *testing.T) {
	c := counts{}
	for _, s := range samples {
		ts, e := lex.All(s)
		if e != api.OK {
			continue
		}
		for i, x := range ts {
			for _, w := range append(strings.Fields("$v 1 'a' ( ) [ ] { } , ; := :: . .. / // @ * + - = < << | ? x:y xs:integer () item() element(a) <a/> a::b child::a"), reserved...) {
				c.judged(t, s[:x.At]+w+" "+s[x.At:])
				c.judged(t, s[:x.At]+" "+w+" "+s[x.End:])
			}
			for _, y := range ts[i:] {
				c.judged(t, s[:x.At]+" "+s[y.End:])
				c.judged(t, s[:y.End]+" "+s[x.At:])
			}
		}
	}
	c.both(t, 1000, 10000)
}
