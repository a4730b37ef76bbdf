package xml

import (
	"strings"

	"espalier/api"
	"espalier/char"
	"espalier/refs"
)

// reader reads a text from the front. It gives up by panic where it can't go on.
type reader struct {
	left string // what isn't read yet
}

// gaveUp is what a reader that gives up panics with.
type gaveUp struct {
	why api.Errno
}

// fail gives up, for the text is no document.
func (r *reader) fail() {
	panic(gaveUp{api.ErrXML})
}

// ahead tells whether this stands next.
func (r *reader) ahead(sign string) bool {
	return strings.HasPrefix(r.left, sign)
}

// take reads this, if it stands next: did it?
func (r *reader) take(sign string) bool {
	rest, ok := strings.CutPrefix(r.left, sign)
	r.left = rest
	return ok
}

// need reads this, which must stand next.
func (r *reader) need(sign string) {
	if !r.take(sign) {
		r.fail()
	}
}

// spaces reads spaces as far as they go: were there any?
func (r *reader) spaces() bool {
	// No CR is left among the characters.
	rest := strings.TrimLeft(r.left, "\t\n ")
	some := len(rest) < len(r.left)
	r.left = rest
	return some
}

// upTo reads what stands ahead of the next such sign, and the sign.
func (r *reader) upTo(sign string) string {
	said, rest, ok := strings.Cut(r.left, sign)
	if !ok {
		r.fail()
	}
	r.left = rest
	return said
}

// characters reads up to the first of these, or to the end.
func (r *reader) characters(stops string) string {
	return r.cut(strings.IndexAny(r.left, stops))
}

// cut reads so many bytes, or, of a number below 0, all that is left.
func (r *reader) cut(count int) string {
	if count < 0 {
		count = len(r.left)
	}
	said := r.left[:count]
	r.left = r.left[count:]
	return said
}

// name reads a name, as far as it goes.
func (r *reader) name() string {
	name := r.cut(strings.IndexFunc(r.left, func(c rune) bool {
		return !char.Name("_" + string(c))
	}))
	if !char.Name(name) {
		r.fail()
	}
	return name
}

// reference reads the rest of a reference: the character that it stands for.
func (r *reader) reference() string {
	said, left, ok := refs.Cut(r.left)
	if !ok {
		r.fail()
	}
	r.left = left
	return said
}
