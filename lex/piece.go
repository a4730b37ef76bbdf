package lex

import (
	"strings"

	"espalier/refs"
)

// piece is how a text reads in which most characters say themselves, and & begins a reference.
type piece struct {
	doubled string // bytes that say themselves once where they stand twice, and end the piece where they don't
	stops   string // bytes that end the piece
	blanks  bool   // whether the bytes 9, 10 and 13 say a blank
}

// read is what s says from its front on, and what is left; false, if a reference isn't right.
func (p piece) read(s string) (said, left string, ok bool) {
	var b strings.Builder
	left = s
	for left != "" {
		c := left[0]
		switch {
		case c == '&':
			meant, rest, ok := refs.Cut(left[1:])
			if !ok {
				return "", "", false
			}
			b.WriteString(meant)
			left = rest
		case has(p.stops, c):
			return b.String(), left, true
		case !has(p.doubled, c):
			b.WriteByte(p.says(c))
			left = left[1:]
		case len(left) > 1 && left[1] == c:
			b.WriteByte(c)
			left = left[2:]
		default:
			return b.String(), left, true
		}
	}
	return b.String(), "", true
}

// says is what a byte says that ends nothing and stands once.
func (p piece) says(c byte) byte {
	if p.blanks && has("\t\n\r", c) {
		return ' '
	}
	return c
}

// has tells whether the byte is one of these.
func has(bytes string, c byte) bool {
	return strings.IndexByte(bytes, c) >= 0
}
