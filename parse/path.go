package parse

import (
	"strings"

	"espalier/api"
	"espalier/atom"
	"espalier/dec"
)

// path reads a Path.
func (r *reader) path() api.Expr {
	root := api.Expr{Op: api.Root}
	switch {
	case r.ahead("//"):
		return r.steps(root)
	case !r.ahead("/"):
		return r.steps(r.step())
	case r.begins(1):
		return r.steps(root)
	}
	r.need("/")
	return root
}

// steps reads the steps behind what a path begins with.
func (r *reader) steps(e api.Expr) api.Expr {
	for {
		switch {
		case r.take("/"):
			e = walk(e, r.step())
		case r.take("//"):
			e = walk(walk(e, below()), r.step())
		default:
			return e
		}
	}
}

// walk is the path from a to b.
func walk(a, b api.Expr) api.Expr {
	return api.Expr{Op: api.Path, Kids: []api.Expr{a, b}}
}

// below is the step that // stands for.
func below() api.Expr {
	return api.Expr{Op: api.Step, Axis: api.DescSelf}
}

// begins tells whether a step begins with the token that stands so many behind the next one.
func (r *reader) begins(behind int) bool {
	switch t := r.token(behind); t.Kind {
	case api.TokName, api.TokVar, api.TokInt, api.TokDec, api.TokStr:
		return true
	case api.TokPunct:
		switch t.Text {
		case "..", "@", "*", ".", "(":
			return true
		case "<":
			return r.letter(t.End)
		}
	}
	return false
}

// step reads a step and the predicates behind it.
func (r *reader) step() api.Expr {
	e := r.bareStep()
	for r.take("[") {
		e = api.Expr{Op: api.Filter, Kids: []api.Expr{e, r.expr()}}
		r.need("]")
	}
	return e
}

// bareStep reads a step without the predicates behind it.
func (r *reader) bareStep() api.Expr {
	switch t := r.token(0); t.Kind {
	case api.TokName:
		return r.named()
	case api.TokVar:
		return api.Expr{Op: api.Var, Name: r.variable()}
	case api.TokInt, api.TokDec:
		return literal(r.number())
	case api.TokStr:
		return literal(atom.Text(r.next().Text))
	}
	return r.marked()
}

// literal is the expression for a value.
func literal(a api.Atom) api.Expr {
	return api.Expr{Op: api.Lit, Val: a}
}

// number reads a number.
func (r *reader) number() api.Atom {
	t := r.next()
	n, e := dec.Parse(t.Text)
	if e != api.OK {
		panic(gaveUp{e})
	}
	if t.Kind == api.TokInt {
		return atom.Of(n.N)
	}
	return atom.Number(n)
}

// marked reads a step that begins with a sign.
func (r *reader) marked() api.Expr {
	switch {
	case r.take("("):
		return r.upTo(")", r.expr)
	case r.take("."):
		return api.Expr{Op: api.Dot}
	case r.take(".."):
		return api.Expr{Op: api.Step, Axis: api.Parent}
	case r.take("@"):
		return api.Expr{Op: api.Step, Axis: api.Attribute, Test: r.test()}
	case r.ahead("*"):
		return api.Expr{Op: api.Step, Axis: api.Child, Test: r.test()}
	case r.ahead("<") && r.letter(r.token(0).End):
		return r.deeper(r.direct)
	}
	r.fail()
	return api.Expr{}
}

// upTo reads an expression, or none, and the word behind it.
func (r *reader) upTo(end string, read func() api.Expr) api.Expr {
	if r.take(end) {
		return api.Expr{Op: api.Seq}
	}
	e := read()
	r.need(end)
	return e
}

// named reads a step that begins with a name.
func (r *reader) named() api.Expr {
	if r.word(1) == "::" {
		return r.along()
	}
	if k, ok := r.kind(); ok {
		axis := api.Child
		if k.test == api.AttrTest {
			axis = api.Attribute
		}
		return api.Expr{Op: api.Step, Axis: axis, Test: r.test()}
	}
	if r.word(1) == "(" {
		return r.call()
	}
	if m, ok := r.maker(); ok {
		return r.computed(m)
	}
	return api.Expr{Op: api.Step, Axis: api.Child, Test: r.test()}
}

// along reads a step that names its axis.
func (r *reader) along() api.Expr {
	name := r.name()
	for axis, word := range axes {
		if word == name {
			r.need("::")
			return api.Expr{Op: api.Step, Axis: api.Axis(axis), Test: r.test()}
		}
	}
	r.fail()
	return api.Expr{}
}

// test reads a Test.
func (r *reader) test() api.Test {
	if r.take("*") {
		return api.Test{Kind: api.AnyElem}
	}
	if k, ok := r.kind(); ok {
		return api.Test{Kind: k.test, Name: r.inKind(k)}
	}
	return api.Test{Kind: api.Named, Name: r.plain()}
}

// call reads a Call.
func (r *reader) call() api.Expr {
	e := api.Expr{Op: api.Call, Name: strings.TrimPrefix(r.name(), "fn:")}
	r.need("(")
	if !r.ahead(")") {
		e.Kids = list(r, r.single)
	}
	r.need(")")
	return e
}

// maker is the word that begins a Computed here; false, if none does.
func (r *reader) maker() (maker, bool) {
	word := r.word(0)
	for _, m := range makers {
		if m.word == word && (r.word(1) == "{" || m.named() && r.plainAt(1) && r.word(2) == "{") {
			return m, true
		}
	}
	return maker{}, false
}

// computed reads what such a word makes.
func (r *reader) computed(m maker) api.Expr {
	e := api.Expr{Op: m.op}
	r.need(m.word)
	if m.named() {
		if r.plainAt(0) {
			e.Name = r.plain()
		} else {
			e.Kids = append(e.Kids, r.enclosed())
		}
	}
	r.need("{")
	e.Kids = append(e.Kids, r.upTo("}", r.inner))
	return e
}
