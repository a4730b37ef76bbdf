package parse

import (
	"strings"

	"espalier/api"
	"espalier/atom"
	"espalier/lex"
)

// direct reads a Direct. Between its < and its end no token is looked at ahead of its time: only in braces are there tokens as elsewhere.
func (r *reader) direct() api.Expr {
	r.need("<")
	e := api.Expr{Op: api.Direct, Name: r.plainHere()}
	e.Kids = r.attributes()
	if r.takeHere("/>") {
		return e
	}
	r.needHere(">")
	e.Kids = append(e.Kids, r.content()...)
	r.needHere("</" + e.Name)
	r.spaces()
	r.needHere(">")
	return e
}

// left is what isn't read yet.
func (r *reader) left() string {
	return r.text[r.at:]
}

// takeHere reads this, if it stands right here: did it?
func (r *reader) takeHere(sign string) bool {
	if !strings.HasPrefix(r.left(), sign) {
		return false
	}
	r.at += len(sign)
	return true
}

// needHere reads this, which must stand right here.
func (r *reader) needHere(sign string) {
	if !r.takeHere(sign) {
		r.fail()
	}
}

// plainHere reads a name without a colon that stands right here.
func (r *reader) plainHere() string {
	if r.token(0).At != r.at {
		r.fail()
	}
	return r.plain()
}

// spaces reads spaces as far as they go: were there any?
func (r *reader) spaces() bool {
	from := r.at
	r.at = len(r.text) - len(strings.TrimLeft(r.left(), "\t\n\r "))
	return r.at > from
}

// attributes reads those of a tag, and the spaces ahead of the tag's end.
func (r *reader) attributes() []api.Expr {
	var all []api.Expr
	counts := map[string]int{}
	for r.spaces() && !strings.HasPrefix(r.left(), "/>") && !strings.HasPrefix(r.left(), ">") {
		name := r.plainHere()
		counts[name]++
		if counts[name] > 1 {
			r.fail()
		}
		r.spaces()
		r.needHere("=")
		r.spaces()
		all = append(all, api.Expr{Op: api.DirAttr, Name: name, Kids: r.value()})
	}
	return all
}

// value reads an attribute's value in its quotes: texts, and expressions in braces.
func (r *reader) value() []api.Expr {
	quote := `"`
	if !r.takeHere(quote) {
		quote = "'"
		r.needHere(quote)
	}
	var parts []api.Expr
	for {
		if said := r.inValue(quote[0]); said != "" {
			parts = append(parts, literal(atom.Raw(said)))
		}
		if r.takeHere(quote) {
			return parts
		}
		parts = append(parts, r.enclosed())
	}
}

// inValue reads what layer 10's Value does: what that says.
func (r *reader) inValue(quote byte) string {
	var said string
	r.pass(func(piece string) (end int, e api.Errno) {
		said, end, e = lex.Value(piece, 0, quote)
		return end, e
	})
	return said
}

// content reads what stands between an element's tags.
func (r *reader) content() []api.Expr {
	var parts []api.Expr
	for {
		if said := r.inContent(); said != "" {
			parts = append(parts, literal(atom.Raw(said)))
		}
		switch {
		case strings.HasPrefix(r.left(), "</"):
			return parts
		case !strings.HasPrefix(r.left(), "<"):
			parts = append(parts, r.enclosed())
		case r.letter(r.at + 1):
			parts = append(parts, r.deeper(r.direct))
		default:
			r.fail()
		}
	}
}

// inContent reads what layer 10's Content does: what that says, if it counts.
func (r *reader) inContent() string {
	var said string
	var more bool
	r.pass(func(piece string) (end int, e api.Errno) {
		said, more, end, e = lex.Content(piece, 0)
		return end, e
	})
	if !more {
		return ""
	}
	return said
}

// pass reads on to where the lexer's answer ends.
func (r *reader) pass(ask func(piece string) (end int, e api.Errno)) {
	size, e := r.look(r.at, ask)
	if e != api.OK {
		r.fail()
	}
	r.at += size
}
