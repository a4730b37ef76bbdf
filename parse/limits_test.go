package parse_test

import (
	"math/rand"
	"strconv"
	"strings"
	"testing"

	"espalier/api"
	"espalier/parse"
)

// nests are texts around a Single, and how much deeper it lies then.
var nests = []struct {
	front, end string
	deeper     int
}{
	{"(", ")", 1},
	{"(1, ", ", 2)", 1},
	{"f(", ")", 1},
	{"f(1, ", ", 2)", 1},
	{"a[", "]", 1},
	{"a[1][", "]/b", 1},
	{"-(", ") + 1", 1},
	{"if (", ") then 1 else 2", 1},
	{"if (1) then ", " else 2", 1},
	{"if (1) then 2 else ", "", 1},
	{"for $x in ", " return 1", 1},
	{"for $x in 1, $y in ", " return 1", 1},
	{"for $x in 1 return ", "", 1},
	{"let $x := ", " return 1", 1},
	{"let $x := 1 where ", " return 1", 1},
	{"let $x := 1 order by ", " return 1", 1},
	{"some $x in ", " satisfies 1", 1},
	{"every $x in 1, $y in ", " satisfies 1", 1},
	{"some $x in 1, $y in 2, $z in 3 satisfies ", "", 1},
	{"typeswitch (", ") case item() return 1 default return 2", 1},
	{"typeswitch (1) case item() return ", " default return 2", 1},
	{"typeswitch (1) case item() return 1 default return ", "", 1},
	{"element a {", "}", 2},
	{"element {", "} {}", 2},
	{"element {1} {", "}", 2},
	{"attribute a {", "}", 2},
	{"text {", "}", 2},
	{"comment {1, ", "}", 2},
	{"document {", "}", 2},
	{"<a>{", "}</a>", 3},
	{"<a b='{", "}'/>", 3},
	{"<a b='{1}' c=\"2{", "}\">3</a>", 3},
	{"<a>t<b>{1}{", "}u</b></a>", 4},
	{"<a><b><c d='{", "}'/></b></a>", 5},
}

// nested makes a text in which a Single lies so deep.
func nested(g *rand.Rand, deep int, s string) string {
	front, end := "", ""
	for deep > 0 {
		n := nests[g.Intn(len(nests))]
		if n.deeper <= deep {
			front, end = front+n.front, n.end+end
			deep -= n.deeper
		}
	}
	return front + s + end
}

func TestP111Nest(t *testing.T) {
	g := rand.New(rand.NewSource(115))
	for _, n := range nests {
		whole, rest := 64/n.deeper, 64%n.deeper
		s := strings.Repeat(n.front, whole) + in(rest, "1") + strings.Repeat(n.end, whole)
		taken(t, s)
		refuse(t, api.ErrNest, strings.Repeat(n.front, whole)+in(rest+1, "1")+strings.Repeat(n.end, whole), in(1, s), n.front+s+n.end, strings.Repeat(n.front, whole+1))
	}
	for range 2000 {
		taken(t, nested(g, 64, "1"))
		refuse(t, api.ErrNest, nested(g, 65, "1"), nested(g, 65, "1 +"), nested(g, 65, "a")+")", nested(g, 65+g.Intn(100), "1"))
	}
}

// What is empty has nothing in it that could lie too deep.
func TestP111NestOfNothing(t *testing.T) {
	for _, s := range []string{"()", "f()", "text {}", "comment { }", "document {}", "element a {}", "attribute a {(::)}", "a", "text()", "/", ".."} {
		taken(t, in(64, s))
		refuse(t, api.ErrNest, in(65, s))
	}
	for _, s := range []string{"<a/>", "<a></a>", "<a b='1'>t</a>", "<a> {{ </a>"} {
		taken(t, in(63, s))
		refuse(t, api.ErrNest, in(64, s))
	}
	for _, s := range []string{"element {1} {}", "text {1}", "<a><b/></a>", "<a>{{<b/></a>"} {
		taken(t, in(62, s))
		refuse(t, api.ErrNest, in(63, s))
	}
	for _, s := range []string{"<a>{1}</a>", "<a b='{1}'/>", "<a><b><c/></b></a>"} {
		taken(t, in(61, s))
		refuse(t, api.ErrNest, in(62, s))
	}
	directs := func(count int) string { return strings.Repeat("<a>", count) + strings.Repeat("</a>", count) }
	taken(t, directs(64))
	taken(t, strings.Repeat("<a>", 63)+strings.Repeat("<b/>", 100)+strings.Repeat("</a>", 63))
	refuse(t, api.ErrNest, directs(65), strings.Repeat("<a>", 65), strings.Repeat("<a>", 64)+"<a/>")
	// Where no Direct begins none lies too deep.
	refuse(t, api.ErrSyntax, in(64, "<1/>"), in(64, "< a/>"), in(64, "<<a/>"), strings.Repeat("<a>", 64), strings.Repeat("<a>", 64)+"</b>", strings.Repeat("<a>", 64)+"<1/>", strings.Repeat("<a>", 64)+"<!--c-->")
}

// What stands side by side, however often, and what is signed, is no deeper; in what is declared it begins anew.
func TestP111NoNest(t *testing.T) {
	many := func(front, unit, end string) string { return front + strings.Repeat(unit, 1000) + end }
	for _, s := range []string{
		many("", "- ", "1"), many("1", "+1", ""), many("1", " or 1", ""), many("a", "/a", ""), many("a", "//a", ""), many("a", "[1]", ""), many("1", ",1", ""), many("f(1", ",1", ")"), many("some $x in 1", ", $x in 1", " satisfies 1"), many("for $x in 1", ", $x in 1", " return 1"), many("for $x in 1", " let $x := 1", " return 1"), many("typeswitch (1)", " case item() return 1", " default return 2"), many("<a>", "{1}", "</a>"), many("<a>", "<b>{1}</b>", "</a>"), many("<a b='", "{1}", "'/>"), many("", "(1), ", "1"), many("", "declare variable $x := (((1))); ", "1"), many("", "declare function f() {(((1)))}; ", "1"),
	} {
		taken(t, s)
	}
	body := func(count int) string { return "declare function f() {" + in(count, "1") + "}; 1" }
	taken(t, body(63))
	refuse(t, api.ErrNest, body(64))
	taken(t, "declare variable $x := "+in(64, "1")+"; declare function f($a as element(a)) {"+in(63, "1")+"}; declare variable $y := "+in(64, "1")+"; "+in(64, "1")+", "+in(64, "1"))
	refuse(t, api.ErrNest, "declare variable $x := "+in(65, "1")+"; 1")
}

func TestP111Long(t *testing.T) {
	fill := func(size int, front, unit, end string) string {
		s := front + strings.Repeat(unit, (size-len(front)-len(end))/len(unit)) + end
		return s + strings.Repeat(" ", size-len(s))
	}
	for _, row := range [][3]string{{"1", " ", ""}, {"", " ", "1"}, {"(:", "r", ":)1"}, {"", "(::)", "1"}, {"'", "é", "'"}, {"a", "a", ""}, {"1", "+1", ""}, {"", "-", "1"}, {"a", "/a", ""}, {"a", "[1]", ""}, {"(1", ",1", ")"}, {"<a>", "x", "</a>"}, {"<a>", " ", "</a>"}, {"<a>", "<b/>", "</a>"}, {"<a>", "{1}", "</a>"}, {"<a b='", "{1}", "'/>"}, {"<a b='", "&#60;", "'/>"}, {"<a b='", "x", "'/>"}, {"<a", " ", "/>"}, {"", "declare variable $x:=1;", "1"}, {"$", "é", ""}, {"", "0", "1"}, {"1.", "0", ""}, {"some ", "$x in 1,", "$x in 1 satisfies 1"}} {
		taken(t, fill(65536, row[0], row[1], row[2]))
		refuse(t, api.ErrLong, fill(65537, row[0], row[1], row[2]), fill(65537, row[0], row[1], row[2]+"\xff"))
		refuse(t, api.ErrSyntax, fill(65536, row[0], row[1], row[2])[:65534]+"!!", fill(65536, row[0], row[1], row[2])[:65535]+"\x80")
	}
	refuse(t, api.ErrLong, strings.Repeat("(", 65537), strings.Repeat("\xff", 65537), strings.Repeat(" ", 1<<20), strings.Repeat("é", 32769))
	refuse(t, api.ErrSyntax, strings.Repeat(" ", 65536), strings.Repeat("é,", 21845)+"(", strings.Repeat("(:", 32768), "'"+strings.Repeat("&", 65535))
	refuse(t, api.ErrNest, strings.Repeat("(", 65536), strings.Repeat("<a>", 21845))
	refuse(t, api.ErrOver, strings.Repeat("9", 65536))
}

// Tokens, texts and values of all lengths, so that all of them are cut at every place: behind them stand bytes that could be theirs.
func TestP111Lengths(t *testing.T) {
	for size := range 300 {
		x, blanks := strings.Repeat("x", size), strings.Repeat(" ", size)
		e := "é" + strings.Repeat("é", size)
		all(t,
			blanks+"a"+x+":b()", "(call name=a"+x+":b)",
			blanks+"self::b", "(step self b)",
			blanks+e+":"+e+"(1)", "(call name="+e+":"+e+" 1)",
			blanks+"1"+strings.Repeat("0", size%18)+" to 2", "(range 1"+strings.Repeat("0", size%18)+" 2)",
			"'"+x+"''"+x+"'", `"`+x+"'"+x+`"`,
			"'"+e+"&lt;"+e+"'", `"`+e+"<"+e+`"`,
			blanks+"1<=2", "(gle 1 2)",
			blanks+"1<2", "(glt 1 2)",
			blanks+"1<<2", "(before 1 2)",
			"(:"+x+"(:"+x+":)"+x+":)1", "1",
			"<a>"+x+"{{"+x+"</a>", `(direct name=a ~"`+x+"{"+x+`")`,
			"<a>y"+x+"{1}"+e+"</a>", `(direct name=a ~"y`+x+`" 1 ~"`+e+`")`,
			"<a>"+x+"&#"+strings.Repeat("0", size)+"65;</a>", `(direct name=a ~"`+x+`A")`,
			"<a>"+blanks+"}}</a>", `(direct name=a ~"`+blanks+`}")`,
			"<a>"+blanks+"<b/></a>", "(direct name=a (direct name=b))",
			"<a b='"+x+"''"+e+"{{'/>", `(direct name=a (dirattr name=b ~"`+x+"'"+e+`{"))`,
			"<a b='y"+x+"{1}"+e+"'/>", `(direct name=a (dirattr name=b ~"y`+x+`" 1 ~"`+e+`"))`,
		)
	}
}

// Of two faults the one ahead is told.
func TestP111TwoFaults(t *testing.T) {
	deep, over, wrong := in(65, "1"), "1"+noughts(18), "1 1"
	refuse(t, api.ErrNest, deep+"+"+over, deep+"+"+wrong, deep+" !", deep+"'", "<a>{"+deep+"}</b>", "f("+deep+","+over+",)", in(65, over), in(65, over+" 1"), in(65, "1 !"), in(65, "(1"), "<a b='{"+deep+"}' b='1'/>", strings.Repeat("(", 70)+"!", "("+deep, deep+")")
	refuse(t, api.ErrOver, over+"+"+deep, over+" "+wrong, over+" !", over+"'", "f("+over+","+deep+",)", "<a>{"+over+"}{"+deep+"}</b>", "<a>{"+over+"}&</a>", "<a b='{"+over+"}' b='1'/>", in(64, over)+deep)
	refuse(t, api.ErrSyntax, wrong+"+"+deep, wrong+"+"+over, "! "+deep, "' "+over, "f(,"+deep+")", "<a b='1' b='{"+deep+"}'/>", "<a b='1' b='{"+over+"}'/>", "<a>}{"+deep+"}</a>", "<a>&{"+over+"}</a>", "<a></b>"+deep, "declare variable $x = "+deep+"; 1", "1 cast as xs:anyAtomicType + "+over, "x::a + "+over, ") "+deep, strings.Repeat("(", 64)+"1 1"+deep, "1 = 2 = "+over, "element a b {"+over+"}", "1 instance of xs:int or "+deep, "text("+over+")", "element("+deep+")", "if ()"+deep, "for $x "+over, "a "+over, "1"+deep, "\xff"+over, over+"\x00", deep+"\xed\xa0\x80")
}

func TestP111Invalid(t *testing.T) {
	for _, s := range []string{"\x80", "\xff", "\xc3", "\xc0\xaf", "\xed\xa0\x80", "\xf0\x80\x80\x80", "\xf4\x90\x80\x80", "\x00", "\x01", "\x08", "\x0b", "\x0c", "\x0e", "\x1f", "\ufffe", "\uffff"} {
		refuse(t, api.ErrSyntax, s, "1"+s, s+"1", "'"+s+"'", "(:"+s+":)1", "<a>"+s+"</a>", "<a b='"+s+"'/>", "1 "+strings.Repeat(" ", 1000)+s, "a"+s, "$"+s, "(1,"+s+"2)")
	}
	edges := "\t\n\r \u007f\u0085\ud7ff\ue000\ufffd\U00010000\U0010ffff"
	hold(t, "'"+edges+"'", strconv.Quote(edges))
}

// No answer shares memory with another one, and no two lists of one share any, their spare room included.
func TestP111NewMemory(t *testing.T) {
	g := grower{Rand: rand.New(rand.NewSource(116))}
	for i := range 300 {
		g.room = i % 60
		words, want := g.module()
		s := g.join(words)
		first, _ := parse.Parse(s)
		second, _ := parse.Parse(s)
		texts := []string{parse.Print(first), parse.Expr(first.Body)}
		n := 0
		stampModule(&first, &n, false)
		if n = 0; !stampModule(&first, &n, true) {
			t.Fatalf("Parse(%q): two lists of the answer share memory", s)
		}
		if third, e := parse.Parse(s); e != api.OK || !same(second, want) || !same(third, want) || parse.Print(second) != texts[0] || parse.Expr(second.Body) != texts[1] {
			t.Fatalf("Parse(%q): two answers share memory", s)
		}
	}
}

// stampModule makes each thing of a query's lists another one, counted from n on; read tells whether they still are so.
func stampModule(m *api.Module, n *int, read bool) bool {
	ok := stamp(&m.Body, n, read)
	for i := range m.Globals[:cap(m.Globals)] {
		g := &m.Globals[:cap(m.Globals)][i]
		ok = mark(&g.Name, n, read) && stamp(&g.Body, n, read) && ok
	}
	for i := range m.Funcs[:cap(m.Funcs)] {
		f := &m.Funcs[:cap(m.Funcs)][i]
		ok = mark(&f.Name, n, read) && stamp(&f.Body, n, read) && ok
		for i := range f.Params[:cap(f.Params)] {
			ok = mark(&f.Params[:cap(f.Params)][i].Name, n, read) && ok
		}
	}
	return ok
}

func stamp(e *api.Expr, n *int, read bool) bool {
	ok := true
	for i := range e.Kids[:cap(e.Kids)] {
		ok = mark(&e.Kids[:cap(e.Kids)][i].Name, n, read) && ok
	}
	for i := range e.Kids {
		ok = stamp(&e.Kids[i], n, read) && ok
	}
	return ok
}

func mark(s *string, n *int, read bool) bool {
	*n++
	if !read {
		*s = strings.Repeat("n", *n%7) + string(rune('a'+*n%26)) + strings.Repeat("m", *n/26%50)
	}
	return *s == strings.Repeat("n", *n%7)+string(rune('a'+*n%26))+strings.Repeat("m", *n/26%50)
}
