package parse

import (
	"strings"
	"unicode/utf8"

	"espalier/api"
	"espalier/char"
	"espalier/lex"
)

// reader reads a query from the front. It gives up by panic where it can't go on.
type reader struct {
	text      string
	at        int         // where what isn't read yet begins
	tokens    []api.Token // those from there on that were looked at
	depth     int         // how many Singles, Directs and enclosed expressions lie around that place
	operators map[string]operator
}

// gaveUp is what a reader that gives up panics with.
type gaveUp struct {
	why api.Errno
}

// fail gives up, for the text can't go on so.
func (r *reader) fail() {
	panic(gaveUp{api.ErrSyntax})
}

// deeper reads what lies one level deeper.
func (r *reader) deeper(read func() api.Expr) api.Expr {
	if r.depth > api.MaxNest {
		panic(gaveUp{api.ErrNest})
	}
	r.depth++
	e := read()
	r.depth--
	return e
}

// noToken is the kind of what stands where no token does. It is no fault as long as it is but looked at: one ahead of it goes first.
const noToken api.TokKind = -1

// token is the one that stands so many behind the next one.
func (r *reader) token(behind int) api.Token {
	for len(r.tokens) <= behind {
		from := r.at
		if n := len(r.tokens); n > 0 {
			from = r.tokens[n-1].End
		}
		r.tokens = append(r.tokens, r.tokenFrom(from))
	}
	return r.tokens[behind]
}

// tokenFrom is the first token from a place on.
func (r *reader) tokenFrom(from int) api.Token {
	var t api.Token
	_, e := r.look(from, func(piece string) (end int, e api.Errno) {
		t, e = lex.Next(piece, 0)
		return t.End, e
	})
	if e != api.OK {
		return api.Token{Kind: noToken, At: from, End: from}
	}
	t.At += from
	t.End += from
	return t
}

// farthest is how many bytes behind a token may tell where it ends: a colon, and the first one of a letter, all of which is in a piece or none.
const farthest = 2

// look asks the lexer about a piece of the text from a place on, and about longer ones till none could change the answer.
// The lexer looks through all that it is handed: handed all that is left for each token, it would be slow.
func (r *reader) look(from int, ask func(piece string) (end int, e api.Errno)) (end int, e api.Errno) {
	for size := 64; ; size *= 2 {
		piece := r.piece(from, size)
		end, e = ask(piece)
		if from+len(piece) == len(r.text) || e == api.OK && end+farthest <= len(piece) {
			return end, e
		}
	}
}

// piece is so many bytes of the text, and what belongs to the last character, as far as there are.
func (r *reader) piece(from, size int) string {
	end := min(from+size, len(r.text))
	for end < len(r.text) && !utf8.RuneStart(r.text[end]) {
		end++
	}
	return r.text[from:end]
}

// next reads a token.
func (r *reader) next() api.Token {
	t := r.token(0)
	r.tokens = r.tokens[1:]
	r.at = t.End
	return t
}

// aVariable is what word says of each of them.
const aVariable = "$"

// word is how the grammar speaks of the token that stands so many behind the next one: of names and signs as they stand, of numbers and strings not.
func (r *reader) word(behind int) string {
	switch t := r.token(behind); t.Kind {
	case api.TokName, api.TokPunct:
		return t.Text
	case api.TokVar:
		return aVariable
	}
	return ""
}

// ahead tells whether these words stand next.
func (r *reader) ahead(words ...string) bool {
	for i, w := range words {
		if r.word(i) != w {
			return false
		}
	}
	return true
}

// take reads these words, if they stand next: did it?
func (r *reader) take(words ...string) bool {
	if !r.ahead(words...) {
		return false
	}
	for range words {
		r.next()
	}
	return true
}

// need reads these words, which must stand next.
func (r *reader) need(words ...string) {
	if !r.take(words...) {
		r.fail()
	}
}

// name reads a name.
func (r *reader) name() string {
	t := r.next()
	if t.Kind != api.TokName {
		r.fail()
	}
	return t.Text
}

// plain reads a name without a colon.
func (r *reader) plain() string {
	if !r.plainAt(0) {
		r.fail()
	}
	return r.next().Text
}

// plainAt tells whether the token that stands so many behind the next one is a name without a colon.
func (r *reader) plainAt(behind int) bool {
	t := r.token(behind)
	return t.Kind == api.TokName && !strings.Contains(t.Text, ":")
}

// variable reads a variable: its name.
func (r *reader) variable() string {
	t := r.next()
	if t.Kind != api.TokVar {
		r.fail()
	}
	return t.Text
}

// letter tells whether the text has a letter at a place.
func (r *reader) letter(at int) bool {
	// A letter is what makes a name by itself.
	return char.Name(r.piece(at, 1))
}

// list reads things with commas between, one at least.
func list[T any](r *reader, read func() T) []T {
	all := []T{read()}
	for r.take(",") {
		all = append(all, read())
	}
	return all
}
