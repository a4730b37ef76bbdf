package parse_test

import (
	"fmt"
	"math/rand"
	"strconv"
	"strings"
	"testing"

	"espalier/api"
	"espalier/lex"
	"espalier/parse"
)

// grown is a piece of a query: its words, and the tree that it is. A Direct is one word.
type grown struct {
	words []string
	tree  api.Expr
}

// grower makes queries by the grammar, and their trees by the table of trees.
type grower struct {
	*rand.Rand
	room int // how many more pieces are wanted: without room all are short
}

func (g *grower) pick(words ...string) string { return words[g.Intn(len(words))] }

// chance tells whether something longer is made, one time of so many.
func (g *grower) chance(of int) bool {
	if g.room <= 0 || g.Intn(of) > 0 {
		return false
	}
	g.room--
	return true
}

func expr(op api.Op, kids ...api.Expr) api.Expr { return api.Expr{Op: op, Kids: kids} }

func (g *grower) name() string {
	return g.pick("a", "b", "é-1.·", "_", "for", "if", "text", "element", "div", "and", "return", "declare", "case", "some", "to", "child")
}

// open tells whether words end in something that would go on with this word: a / alone with a step, a type with how often.
func open(words []string, next string) bool {
	last := words[len(words)-1]
	if last == "/" {
		return next != "" && strings.Contains("abcdefghijklmnopqrstuvwxyz*", next[:1])
	}
	return strings.HasPrefix(last, "type:") && !strings.HasPrefix(last, "type:empty-sequence") && strings.Trim(last[len(last)-1:], "?*+") != "" && strings.Contains("?*+", next)
}

// before is the piece as it may stand ahead of a word.
func (g *grower) before(p grown, next string) []string {
	if open(p.words, next) {
		return around("(", p.words, ")")
	}
	return p.words
}

func around(front string, words []string, end string) []string {
	return append(append([]string{front}, words...), end)
}

// expr makes an Expr.
func (g *grower) expr() grown {
	p := g.single()
	if !g.chance(6) {
		return p
	}
	kids := []api.Expr{p.tree}
	for range 1 + g.Intn(3) {
		next := g.single()
		p.words = append(append(g.before(p, ","), ","), next.words...)
		kids = append(kids, next.tree)
	}
	return grown{p.words, expr(api.Seq, kids...)}
}

func (g *grower) single() grown {
	if !g.chance(3) {
		return g.level(0)
	}
	switch g.Intn(5) {
	case 0:
		return g.flwor()
	case 1:
		return g.some()
	case 2:
		return g.typeswitch()
	case 3:
		a, b, c := g.expr(), g.single(), g.single()
		words := append(around("(", a.words, ")"), "then")
		words = append(append(words, g.before(b, "else")...), "else")
		return grown{append(append([]string{"if"}, words...), c.words...), expr(api.If, a.tree, b.tree, c.tree)}
	}
	return g.level(0)
}

func (g *grower) flwor() grown {
	var words []string
	var kids []api.Expr
	put := func(next string, p grown) { words = append(words, g.before(p, next)...) }
	for i := range 1 + g.Intn(3) {
		name, p := g.name(), g.single()
		clause := api.Expr{Op: api.Let, Name: name, Kids: []api.Expr{p.tree}}
		front := []string{"let", "$" + name, ":="}
		if g.Intn(2) == 0 {
			clause.Op = api.For
			front = []string{"for", "$" + name}
			if g.Intn(3) == 0 {
				clause.At = g.name()
				front = append(front, "at", "$"+clause.At)
			}
			front = append(front, "in")
		}
		if i > 0 && kids[i-1].Op == clause.Op && g.Intn(2) == 0 {
			front[0] = ","
		}
		words = append(words, front...)
		put("return", p)
		kids = append(kids, clause)
	}
	if g.Intn(3) == 0 {
		p := g.single()
		words = append(words, "where")
		put("return", p)
		kids = append(kids, expr(api.Where, p.tree))
	}
	if g.Intn(3) == 0 {
		p := g.single()
		words = append(words, "order", "by")
		put("return", p)
		clause := expr(api.Order, p.tree)
		switch g.Intn(3) {
		case 0:
			words = append(words, "ascending")
		case 1:
			words = append(words, "descending")
			clause.Down = true
		}
		kids = append(kids, clause)
	}
	p := g.single()
	return grown{append(append(words, "return"), p.words...), expr(api.Flwor, append(kids, p.tree)...)}
}

func (g *grower) some() grown {
	op, words := api.Some, []string{"some"}
	if g.Intn(2) == 0 {
		op, words = api.Every, []string{"every"}
	}
	var heads []api.Expr
	for i := range 1 + g.Intn(3) {
		if i > 0 {
			words = append(words, ",")
		}
		name, p := g.name(), g.single()
		words = append(append(words, "$"+name, "in"), g.before(p, "satisfies")...)
		heads = append(heads, api.Expr{Op: op, Name: name, Kids: []api.Expr{p.tree}})
	}
	p := g.single()
	words = append(append(words, "satisfies"), p.words...)
	tree := p.tree
	for i := len(heads) - 1; i >= 0; i-- {
		heads[i].Kids = append(heads[i].Kids, tree)
		tree = heads[i]
	}
	return grown{words, tree}
}

func (g *grower) typeswitch() grown {
	p := g.expr()
	words, kids := append([]string{"typeswitch"}, around("(", p.words, ")")...), []api.Expr{p.tree}
	for range 1 + g.Intn(2) {
		c := api.Expr{Op: api.Case}
		words = append(words, "case")
		if g.Intn(2) == 0 {
			c.Name = g.name()
			words = append(words, "$"+c.Name, "as")
		}
		var s string
		s, c.Type = g.typ()
		p := g.single()
		words = append(append(words, s, "return"), g.before(p, "case")...)
		c.Kids = []api.Expr{p.tree}
		kids = append(kids, c)
	}
	c := api.Expr{Op: api.Case, Type: api.SeqType{Item: api.AnyItem, Occ: api.Star}}
	words = append(words, "default")
	if g.Intn(2) == 0 {
		c.Name = g.name()
		words = append(words, "$"+c.Name)
	}
	p = g.single()
	c.Kids = []api.Expr{p.tree}
	return grown{append(append(words, "return"), p.words...), expr(api.Switch, append(kids, c)...)}
}

// opOf is the Op that show tells so.
func opOf(name string) api.Op {
	for i, w := range words {
		if w == name {
			return api.Op(i + 1)
		}
	}
	return 0
}

// level makes an expression of an operator of a level, or of a stronger one.
func (g *grower) level(l int) grown {
	if l == len(levels) {
		return g.typed()
	}
	if !g.chance(6) {
		return g.level(l + 1)
	}
	i := g.Intn(len(levels[l])/2) * 2
	word, op := levels[l][i], opOf(levels[l][i+1])
	least := l
	if single(l) {
		least++
	}
	a, b := g.level(least), g.level(l+1)
	return grown{append(append(g.before(a, word), word), b.words...), expr(op, a.tree, b.tree)}
}

// typ makes a type: one word, which join writes out.
func (g *grower) typ() (string, api.SeqType) {
	if g.Intn(8) == 0 {
		return "type:empty-sequence ( )", api.SeqType{Item: api.NoItem, Occ: api.Star}
	}
	s, item := g.atomic(6)
	t := api.SeqType{Item: item}
	if g.Intn(2) == 0 {
		i := g.Intn(6)
		s, t.Item = []string{"item ( )", "node ( )", "text ( )", "comment ( )", "document-node ( )", "element ( * )"}[i], []api.ItemKind{api.AnyItem, api.NodeItem, api.TextItem, api.ComItem, api.DocItem, api.ElemItem}[i]
	}
	if g.Intn(4) == 0 {
		t = api.SeqType{Item: api.AttrItem, Name: g.name()}
		s = "attribute ( " + t.Name + " )"
	}
	i := g.Intn(4)
	t.Occ = api.Occ(i)
	return "type:" + s + []string{"", " ?", " +", " *"}[i], t
}

// atomic makes one of the first so many types of atomic values.
func (g *grower) atomic(of int) (string, api.ItemKind) {
	i := g.Intn(of)
	return "xs:" + []string{"integer", "decimal", "string", "boolean", "untypedAtomic", "anyAtomicType"}[i], api.ItemKind(i + 1)
}

// typed makes what stands between operators.
func (g *grower) typed() grown {
	p := g.signed()
	for i, front := range [][]string{{"cast", "as"}, {"castable", "as"}, {"treat", "as"}, {"instance", "of"}} {
		if !g.chance(8) {
			continue
		}
		e := api.Expr{Op: []api.Op{api.Cast, api.Castable, api.Treat, api.Instance}[i], Kids: []api.Expr{p.tree}}
		var s string
		if i < 2 {
			s, e.Type.Item = g.atomic(5 + i)
			s = "type:" + s
			if g.Intn(2) == 0 {
				s, e.Type.Occ = s+" ?", api.Opt
			}
			// Behind these only ? may be read as how often.
			if e.Type.Occ == api.One {
				s = strings.TrimPrefix(s, "type:")
			}
		} else {
			s, e.Type = g.typ()
		}
		p = grown{append(append(g.before(p, front[0]), front...), s), e}
	}
	return p
}

func (g *grower) signed() grown {
	var signs []string
	for g.chance(5) {
		signs = append(signs, g.pick("+", "-", "-"))
	}
	p := g.path()
	for i := range signs {
		if signs[len(signs)-1-i] == "-" {
			p.tree = expr(api.Neg, p.tree)
		}
	}
	return grown{append(signs, p.words...), p.tree}
}

func (g *grower) path() grown {
	var p grown
	anyBelow := api.Expr{Op: api.Step, Axis: api.DescSelf}
	join := func(sign string, to grown) {
		if sign == "//" {
			p.tree = expr(api.Path, p.tree, anyBelow)
		}
		p = grown{append(append(p.words, sign), to.words...), expr(api.Path, p.tree, to.tree)}
	}
	if g.chance(8) {
		p.tree = api.Expr{Op: api.Root}
		if g.Intn(2) == 0 {
			return grown{[]string{"/"}, p.tree}
		}
		join(g.pick("/", "//"), g.step())
	} else {
		p = g.step()
	}
	for g.chance(4) {
		join(g.pick("/", "/", "//"), g.step())
	}
	return p
}

func (g *grower) step() grown {
	p := g.primary()
	for g.chance(6) {
		x := g.expr()
		p = grown{append(p.words, around("[", x.words, "]")...), expr(api.Filter, p.tree, x.tree)}
	}
	return p
}

func (g *grower) primary() grown {
	lit := func(word string, a api.Atom) grown {
		return grown{[]string{word}, api.Expr{Op: api.Lit, Val: a}}
	}
	switch g.Intn(12) {
	case 0:
		n := g.Intn(100)
		return lit(g.pick("", "0")+strconv.Itoa(n), api.Atom{Kind: api.Int, N: n})
	case 1:
		n := g.Intn(100)
		return lit(strconv.Itoa(n)+g.pick(".", ".0"), api.Atom{Kind: api.Dec, N: n})
	case 2:
		return lit(g.pick("1", "01")+".5"+g.pick("", "0"), api.Atom{Kind: api.Dec, N: 15, Scale: 1})
	case 3:
		quote, said := g.pick(`"`, "'"), g.pick("", "a", "'", `"`, "&", "for", "\r\n", "{", "(: ", "é", "<a>")
		return lit(quote+strings.NewReplacer(quote, quote+quote, "&", "&#38;").Replace(said)+quote, api.Atom{Kind: api.Str, S: said})
	case 4:
		name := g.name()
		return grown{[]string{"$" + name}, api.Expr{Op: api.Var, Name: name}}
	case 5:
		return grown{[]string{"."}, api.Expr{Op: api.Dot}}
	case 6:
		if g.room <= 0 {
			return grown{[]string{"(", ")"}, api.Expr{Op: api.Seq}}
		}
		p := g.expr()
		return grown{around("(", p.words, ")"), p.tree}
	case 7:
		return g.call()
	case 8:
		return g.computed()
	case 9:
		s, tree := g.direct()
		return grown{[]string{s}, tree}
	}
	return g.axis()
}

func (g *grower) axis() grown {
	if g.Intn(8) == 0 {
		return grown{[]string{".."}, api.Expr{Op: api.Step, Axis: api.Parent}}
	}
	name := g.name()
	i := g.Intn(10)
	words := [][]string{{name}, {"*"}, {"node", "(", ")"}, {"text", "(", ")"}, {"comment", "(", ")"}, {"document-node", "(", ")"}, {"element", "(", ")"}, {"element", "(", name, ")"}, {"attribute", "(", "*", ")"}, {"attribute", "(", name, ")"}}[i]
	test := []api.Test{{Kind: api.Named, Name: name}, {Kind: api.AnyElem}, {}, {Kind: api.TextTest}, {Kind: api.CommentTest}, {Kind: api.DocTest}, {Kind: api.ElemTest}, {Kind: api.ElemTest, Name: name}, {Kind: api.AttrTest}, {Kind: api.AttrTest, Name: name}}[i]
	axis := api.Child
	switch g.Intn(3) {
	case 0:
		axis = api.Axis(1 + g.Intn(10))
		words = append([]string{axisNames[axis-1], "::"}, words...)
	case 1:
		axis = api.Attribute
		words = append([]string{"@"}, words...)
	default:
		if test.Kind == api.AttrTest {
			axis = api.Attribute
		}
	}
	return grown{words, api.Expr{Op: api.Step, Axis: axis, Test: test}}
}

func (g *grower) call() grown {
	name := g.pick("f", "local:f", "fn", "count", "div", "xs:integer", "fn:if", "fn:text", "fn:count", "and", "a:b")
	words, tree := []string{name, "("}, api.Expr{Op: api.Call, Name: strings.TrimPrefix(name, "fn:")}
	for g.chance(2) {
		p := g.single()
		if len(tree.Kids) > 0 {
			words = append(words, ",")
		}
		words, tree.Kids = append(words, g.before(p, ",")...), append(tree.Kids, p.tree)
	}
	return grown{append(words, ")"), tree}
}

func (g *grower) computed() grown {
	i := g.Intn(5)
	words := []string{[]string{"element", "attribute", "text", "comment", "document"}[i]}
	tree := api.Expr{Op: []api.Op{api.MakeElem, api.MakeAttr, api.MakeText, api.MakeCom, api.MakeDoc}[i]}
	if i < 2 && g.chance(3) {
		p := g.expr()
		words, tree.Kids = append(words, around("{", p.words, "}")...), append(tree.Kids, p.tree)
	} else if i < 2 {
		tree.Name = g.name()
		words = append(words, tree.Name)
	}
	if !g.chance(2) {
		tree.Kids = append(tree.Kids, api.Expr{Op: api.Seq})
		return grown{append(words, "{", "}"), tree}
	}
	p := g.expr()
	tree.Kids = append(tree.Kids, p.tree)
	return grown{append(words, around("{", p.words, "}")...), tree}
}

// direct makes a Direct, as it is written.
func (g *grower) direct() (string, api.Expr) {
	name := g.name()
	s, tree := "<"+name, api.Expr{Op: api.Direct, Name: name}
	for _, attr := range []string{"x", "y", "for", "é-1.·"} {
		if g.Intn(5) > 0 {
			continue
		}
		quote := g.pick(`"`, "'")
		parts, kids := g.parts(strings.NewReplacer("{", "{{", "}", "}}", "<", "&lt;", "&", "&amp;", "\n", "&#10;", quote, g.pick(quote+quote, fmt.Sprintf("&#%d;", quote[0]))), func(said string) bool { return said != "" })
		s += g.pick(" ", "\t\r\n") + attr + g.pick("", " ") + "=" + g.pick("", "\n") + quote + parts + quote
		tree.Kids = append(tree.Kids, api.Expr{Op: api.DirAttr, Name: attr, Kids: kids})
	}
	s += g.pick("", "", " ", "\n")
	if g.Intn(3) == 0 {
		return s + "/>", tree
	}
	parts, kids := g.parts(strings.NewReplacer("{", "{{", "}", "}}", "<", "&lt;", "&", "&amp;"), func(said string) bool { return strings.Trim(said, "\t\n\r ") != "" })
	if g.chance(3) {
		inner, kid := g.direct()
		parts, kids = parts+inner, append(kids, kid)
	}
	tree.Kids = append(tree.Kids, kids...)
	return s + ">" + parts + "</" + name + g.pick("", "", " ") + ">", tree
}

// parts makes texts, as spell writes them, and expressions in braces by turns; which texts count depends.
func (g *grower) parts(spell *strings.Replacer, counts func(said string) bool) (string, []api.Expr) {
	s := ""
	var kids []api.Expr
	for {
		said := g.pick("", "t", " ", "{", "}", "<", "&", "'", `"`, " \n", "}}", "{1}", "(:", "]]>", "é")
		s += spell.Replace(said)
		if counts(said) {
			kids = append(kids, api.Expr{Op: api.Lit, Val: api.Atom{Kind: api.Untyped, S: said}})
		}
		if !g.chance(3) {
			return s, kids
		}
		p := g.expr()
		s += "{" + g.join(p.words) + "}"
		kids = append(kids, p.tree)
	}
}

// join is words with spaces and remarks between, or nothing, where that is enough.
func (g *grower) join(words []string) string {
	words = strings.Split(strings.ReplaceAll(strings.Join(words, "\x00"), "type:", ""), "\x00")
	s := g.gap()
	for i, w := range words {
		if i > 0 && (!apart(words[i-1], w) || g.Intn(2) == 0) {
			s += g.pick(" ", "\n", "(::)", "\t (: a (: ' :) < :)\r") + g.gap()
		}
		s += w
	}
	return s + g.gap()
}

// gap is nothing, spaces or remarks.
func (g *grower) gap() string { return g.pick("", "", "", " ", "\r\n", "(: r :)", " (:(: {:):) ") }

// apart tells whether two words stay two tokens with nothing between.
func apart(a, b string) bool {
	if strings.HasPrefix(b, "<") && len(b) > 2 || strings.HasPrefix(a, "<") && len(a) > 2 {
		return false
	}
	ts, e := lex.All(a + b)
	one, _ := lex.All(a)
	two, _ := lex.All(b)
	if e != api.OK || len(ts) != len(one)+len(two) || a == "/" && strings.HasPrefix(b, "<") || a == "<" {
		return false
	}
	for i, t := range append(one, two...) {
		if ts[i].Kind != t.Kind || ts[i].Text != t.Text {
			return false
		}
	}
	return true
}

// module makes a query, and what it is.
func (g *grower) module() ([]string, api.Module) {
	var all []string
	var m api.Module
	as := func() api.SeqType {
		if g.Intn(2) == 0 {
			return api.SeqType{Item: api.AnyItem, Occ: api.Star}
		}
		s, t := g.typ()
		all = append(all, "as", s)
		return t
	}
	for g.Intn(3) == 0 {
		if g.Intn(2) == 0 {
			x := api.Global{Name: g.name()}
			all = append(all, "declare", "variable", "$"+x.Name)
			x.Type = as()
			p := g.single()
			x.Body = p.tree
			all = append(append(append(all, ":="), p.words...), ";")
			m.Globals = append(m.Globals, x)
			continue
		}
		f := api.Func{Name: g.pick("f", "local:f", "fn:f", "if")}
		all = append(all, "declare", "function", f.Name, "(")
		for range g.Intn(3) {
			if len(f.Params) > 0 {
				all = append(all, ",")
			}
			x := api.Param{Name: g.name()}
			all = append(all, "$"+x.Name)
			x.Type = as()
			f.Params = append(f.Params, x)
		}
		all = append(all, ")")
		f.Result = as()
		p := g.expr()
		f.Body = p.tree
		all = append(append(all, around("{", p.words, "}")...), ";")
		m.Funcs = append(m.Funcs, f)
	}
	p := g.expr()
	m.Body = p.tree
	return append(all, p.words...), m
}

// Queries that are grown are read as what they are, however their words are set apart; what is printed of them is, too.
func TestP111Grown(t *testing.T) {
	g := grower{Rand: rand.New(rand.NewSource(111))}
	longest := 0
	for i := range 5000 {
		g.room = i % 60
		all, want := g.module()
		for range 3 {
			s := g.join(all)
			got, e := parse.Parse(s)
			if e != api.OK || !same(got, want) {
				t.Fatalf("Parse(%q): %v, %s; not %s", s, e, showModule(got), showModule(want))
			}
			longest = max(longest, len(s))
		}
		back(t, "", want)
	}
	if longest < 1000 {
		t.Errorf("the longest text has %d bytes", longest)
	}
}
