package refs

import (
	"strconv"
	"strings"
	"testing"

	"espalier/char"
)

// hold holds Cut to this answer.
func hold(t *testing.T, s, said, left string, ok bool) {
	t.Helper()
	if gotSaid, gotLeft, gotOK := Cut(s); gotSaid != said || gotLeft != left || gotOK != ok {
		t.Errorf("Cut(%.80q): %q, %.80q, %v; not %q, %.80q, %v", s, gotSaid, gotLeft, gotOK, said, left, ok)
	}
}

func TestP81ReferencesThatAreRight(t *testing.T) {
	for body, said := range map[string]string{
		"lt": "<", "gt": ">", "amp": "&", "quot": `"`, "apos": "'",
		"#9": "\t", "#10": "\n", "#13": "\r", "#32": " ", "#65": "A", "#233": "é", "#55295": "\ud7ff", "#57344": "\ue000", "#65533": "\ufffd", "#65536": "\U00010000", "#1114111": "\U0010FFFF",
		"#x9": "\t", "#xA": "\n", "#xd": "\r", "#x20": " ", "#x41": "A", "#xE9": "é", "#xe9": "é", "#xD7FF": "\ud7ff", "#xe000": "\ue000", "#xFFfd": "\ufffd", "#x10000": "\U00010000", "#x10FFFF": "\U0010FFFF",
		"#065": "A", "#x0041": "A", "#" + strings.Repeat("0", 60000) + "65": "A", "#x" + strings.Repeat("0", 60000) + "41": "A",
	} {
		for _, left := range []string{"", ";", "a", "&lt;", "\xff"} {
			hold(t, body+";"+left, said, left, true)
		}
	}
}

func TestP81ReferencesThatAreNotRight(t *testing.T) {
	for _, s := range []string{
		"", ";", "lt", "#65", "#x41", "lt ;", " lt;", "LT;", "Lt;", "l;", "ltt;", "y;", "amp", "quot'", "nbsp;", "&lt;", "lt<;",
		"#;", "#x;", "#X41;", "x41;", "65;", "# 65;", "#65 ;", "#x 41;", "#+65;", "#-65;", "#x+41;", "#6_5;", "#0x41;", "#0b1;", "#6A;", "#xG;", "#x0x41;", "#1e1;", "#6.5;", "##65;", "#xx41;", "#\u0661;", "#é;",
		"#0;", "#1;", "#8;", "#11;", "#12;", "#14;", "#31;", "#x1F;", "#55296;", "#57343;", "#xD800;", "#xDFFF;", "#65534;", "#65535;", "#xFFFE;", "#xFFFF;", "#1114112;", "#x110000;",
		"#4294967361;", "#x100000041;", "#18446744073709551681;", "#x10000000000000041;", "#" + strings.Repeat("9", 60000) + ";", "#x" + strings.Repeat("F", 60000) + ";",
	} {
		hold(t, s, "", "", false)
	}
}

func TestP81ReferencesOfAllPoints(t *testing.T) {
	for n := range 0x110010 {
		said, left, ok := string(rune(n)), "a", true
		// Of a number that is no character's, string makes the character 65533.
		if n >= 0xD800 && n < 0xE000 || n > 0x10FFFF || !char.Valid(said) {
			said, left, ok = "", "", false
		}
		hold(t, "#"+strconv.Itoa(n)+";a", said, left, ok)
		hold(t, "#x"+strconv.FormatInt(int64(n), 16)+";a", said, left, ok)
	}
}
