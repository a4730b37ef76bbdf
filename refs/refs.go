// Package refs reads references, which documents and queries have alike: see shared/doc/08-xml.md.
package refs

import (
	"strconv"
	"strings"

	"espalier/api"
	"espalier/char"
)

// Cut reads a reference whose & stands right ahead of s: the character that it stands for, and what is left behind it; false, if it isn't right.
func Cut(s string) (said, left string, ok bool) {
	body, left, ok := strings.Cut(s, ";")
	if !ok {
		return "", "", false
	}
	said, ok = meaning(body)
	if !ok {
		return "", "", false
	}
	return said, left, true
}

// meaning is the character for what stands between & and the semicolon.
func meaning(body string) (string, bool) {
	switch body {
	case "lt":
		return "<", true
	case "gt":
		return ">", true
	case "amp":
		return "&", true
	case "quot":
		return `"`, true
	case "apos":
		return "'", true
	}
	digits, ok := strings.CutPrefix(body, "#")
	if !ok {
		return "", false
	}
	if hex, ok := strings.CutPrefix(digits, "x"); ok {
		return numbered(hex, 16)
	}
	return numbered(digits, 10)
}

// numbered is the character of that number.
func numbered(digits string, base int) (string, bool) {
	n, err := strconv.ParseUint(digits, base, 31)
	if err != nil {
		return "", false
	}
	said, e := char.Text(int(n))
	return said, e == api.OK
}
