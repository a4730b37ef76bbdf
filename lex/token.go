package lex

import (
	"strings"
	"unicode/utf8"

	"espalier/api"
	"espalier/char"
)

// next is the token behind the spaces and remarks from at on, in a text that is readable there.
func next(s string, at int) (api.Token, api.Errno) {
	left, ok := passed(s[at:])
	if !ok {
		return api.Token{}, api.ErrSyntax
	}
	at = len(s) - len(left)
	if left == "" {
		return api.Token{Kind: api.TokEnd, At: at, End: at}, api.OK
	}
	kind, text, size := token(left)
	if size == 0 {
		return api.Token{}, api.ErrSyntax
	}
	return api.Token{Kind: kind, Text: text, At: at, End: at + size}, api.OK
}

// passed is what is left behind spaces and remarks; false, if a remark has no end.
func passed(s string) (string, bool) {
	left := strings.TrimLeft(s, "\t\n\r ")
	for strings.HasPrefix(left, "(:") {
		size := remark(left)
		if size == 0 {
			return "", false
		}
		left = strings.TrimLeft(left[size:], "\t\n\r ")
	}
	return left, true
}

// remark is the size of the remark that s begins with, 0 if that has no end.
func remark(s string) int {
	open := 0
	for at := 0; at+2 <= len(s); {
		switch s[at : at+2] {
		case "(:":
			open++
			at += 2
		case ":)":
			open--
			at += 2
		default:
			at++
		}
		if open == 0 {
			return at
		}
	}
	return 0
}

// token is the token that s begins with, and its size, which is 0 if there is none. s isn't empty.
func token(s string) (kind api.TokKind, text string, size int) {
	switch {
	case s[0] == '$':
		return variable(s)
	case s[0] == '"' || s[0] == '\'':
		return quoted(s)
	case digits(s) > 0 || s[0] == '.' && digits(s[1:]) > 0:
		return number(s)
	}
	if size := len(sign(s)); size > 0 {
		return api.TokPunct, s[:size], size
	}
	name := qualified(s)
	return api.TokName, name, len(name)
}

// variable is the token that s begins with, which begins with $.
func variable(s string) (kind api.TokKind, text string, size int) {
	name := plain(s[1:])
	if name == "" {
		return 0, "", 0
	}
	return api.TokVar, name, 1 + len(name)
}

// quoted is the token that s begins with, which begins with a quote.
func quoted(s string) (kind api.TokKind, text string, size int) {
	quote := s[:1]
	said, left, ok := piece{doubled: quote}.read(s[1:])
	if !ok || left == "" {
		return 0, "", 0
	}
	return api.TokStr, said, len(s) - len(left) + len(quote)
}

// number is the token that s begins with, which begins with a digit, or with a point and a digit.
func number(s string) (kind api.TokKind, text string, size int) {
	kind, size = api.TokInt, digits(s)
	if strings.HasPrefix(s[size:], ".") {
		kind, size = api.TokDec, size+1
		size += digits(s[size:])
	}
	if letter(s[size:]) {
		return 0, "", 0
	}
	return kind, s[:size], size
}

// digits is how many digits s begins with.
func digits(s string) int {
	return len(s) - len(strings.TrimLeft(s, "0123456789"))
}

// letter tells whether s begins with a letter.
func letter(s string) bool {
	_, size := utf8.DecodeRuneInString(s)
	// A letter is what makes a name by itself.
	return char.Name(s[:size])
}

// qualified is the longest name that s begins with, and a colon and a name, if they stand behind it.
func qualified(s string) string {
	name := plain(s)
	if name == "" {
		return ""
	}
	if left, ok := strings.CutPrefix(s[len(name):], ":"); ok && letter(left) {
		return name + ":" + plain(left)
	}
	return name
}

// plain is the longest name without a colon that s begins with.
func plain(s string) string {
	// Asked first, so that rows of hyphens and points, which may stand in a name, aren't looked through once from each of them.
	if !letter(s) {
		return ""
	}
	for at, c := range s {
		if !char.Name("_" + string(c)) {
			return s[:at]
		}
	}
	return s
}

// sign is the longest sign that s begins with. s isn't empty.
func sign(s string) string {
	if len(s) > 1 {
		switch s[:2] {
		case ":=", "::", "..", "//", "!=", "<=", "<<", ">=", ">>":
			return s[:2]
		}
	}
	if strings.IndexByte("()[]{},;./@*+-=<>|?", s[0]) < 0 {
		return ""
	}
	return s[:1]
}
