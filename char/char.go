// Package char is layer 1, characters, names and spaces of texts: see shared/doc/01-char.md.
package char

import (
	"strings"
	"unicode/utf8"

	"espalier/api"
)

// Valid tells whether each of the texts is UTF-8 of XML's characters.
func Valid(ss ...string) bool {
	for _, s := range ss {
		// A bad byte is looked through as the character 65533, which is XML's: only the bytes tell it.
		if !utf8.ValidString(s) || !all(s, func(_, _ int, r rune) bool { return listed(int(r)) }) {
			return false
		}
	}
	return true
}

// Name tells whether s is valid and a name.
func Name(s string) bool {
	return s != "" && Valid(s) && all(s, func(place, _ int, r rune) bool {
		return letter(r) || place > 0 && follows(r)
	})
}

// Trim is s without the spaces at both ends.
func Trim(s string) string {
	return strings.TrimFunc(s, space)
}

// Normal is s trimmed, each row of spaces within made one blank.
func Normal(s string) string {
	return strings.Join(strings.FieldsFunc(s, space), " ")
}

// Len is how many characters s has.
func Len(s string) int {
	return utf8.RuneCountInString(s)
}

// Compare is -1, 0 or 1, as a's bytes stand ahead of b's, are the same, or behind.
func Compare(a, b string) int {
	return strings.Compare(a, b)
}

// Sub is the characters of s from the place from on, up to count of them; places below 0 count, and have none.
func Sub(s string, from, count int) string {
	if count < 1 {
		return ""
	}
	if from < 0 {
		from, count = 0, count+from
	}
	first, end := len(s), len(s)
	all(s, func(place, at int, _ rune) bool {
		if place == from {
			first = at
		}
		// Not place >= from+count: that sum may be too great for an int.
		if place-from >= count {
			end = at
			return false
		}
		return true
	})
	return s[first:end]
}

// Points are the numbers of the characters of s.
func Points(s string) []int {
	ps := make([]int, 0, Len(s))
	all(s, func(_, _ int, r rune) bool {
		ps = append(ps, int(r))
		return true
	})
	return ps
}

// Text is the text of the characters with these numbers; ErrArg, if one is no number of an XML's character.
func Text(ps ...int) (string, api.Errno) {
	var b strings.Builder
	for _, p := range ps {
		if !listed(p) {
			return "", api.ErrArg
		}
		b.WriteRune(rune(p))
	}
	return b.String(), api.OK
}

// all looks through the characters of s, each with its place and the place of its first byte, as long as ok holds: did it hold for all?
func all(s string, ok func(place, at int, r rune) bool) bool {
	place := 0
	for at, r := range s {
		if !ok(place, at, r) {
			return false
		}
		place++
	}
	return true
}

// listed takes an int, for a number that is handed in may be too great for a rune.
func listed(p int) bool {
	switch {
	case p < 32:
		return p == 9 || p == 10 || p == 13
	case p < 0xD800:
		return true
	case p < 0xE000:
		return false
	case p < 0x10000:
		return p < 0xFFFE
	}
	return p <= utf8.MaxRune
}

func letter(r rune) bool {
	return 'A' <= r && r <= 'Z' || 'a' <= r && r <= 'z' || r == '_' || r >= 0xC0 && r != 0xD7 && r != 0xF7
}

func follows(r rune) bool {
	return '0' <= r && r <= '9' || r == '-' || r == '.' || r == 0xB7
}

// space is narrower than the library's own notion of it.
func space(r rune) bool {
	return r == '\t' || r == '\n' || r == '\r' || r == ' '
}
