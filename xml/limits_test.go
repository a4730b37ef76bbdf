package xml_test

import (
	"slices"
	"strconv"
	"strings"
	"testing"

	"espalier/api"
)

// wrong are texts that can't stand in an element, and begin none.
var wrong = []string{"]]>", "&x;", "&#0;", "&", "<1/>", "<", "< b>", "<-b>", "</b>", "</1>", "<!--a--b-->", "<!--a--->", "<![CDATA[x]]>]]>", "<?p?>", "<!DOCTYPE b>"}

// wrongElements are texts that can't either, for what stands behind an element's name.
var wrongElements = []string{"<b></c>", "<b x/>", "<b x=1>", `<b x="1" x="2">`, `<b x="<">`, `<b x="&y;"/>`, "<b / >", "<b>]]></b>", "<b"}

// invalid are texts that aren't valid.
var invalid = []string{"\xff", "\x80", "\xc3", "\xe2\x82", "\xed\xa0\x80", "\xc0\xbc", "\xf4\x90\x80\x80", "\x00", "\x01", "\x0b", "\x0c", "\x1f", "\ufffe", "\uffff"}

func TestP81Nesting(t *testing.T) {
	for _, count := range []int{1, 2, 61, 62, 63} {
		hold(t, in(count, ""), inTree(count))
		hold(t, in(count, "t"), inTree(count, text("t")))
		hold(t, in(count, "<!--c-->&lt;<![CDATA[>]]>"), inTree(count, comment("c"), text("<>")))
		hold(t, in(count-1, "<b/>"), inTree(count-1, elem("b")))
		hold(t, in(count-1, "<b x='1'>t</b>"), inTree(count-1, with(elem("b", text("t")), "x", "1")))
	}
	for _, count := range []int{64, 65, 66, 100, 1000, 100000} {
		refuse(t, api.ErrNest, in(count, ""), in(count, "t"), in(count-1, "<b/>"), strings.Repeat("<a>", count), strings.Repeat("<a x='1'>t", count))
	}
}

// How many elements have ended doesn't count, nor how many stand side by side.
func TestP81NestingOfManyElements(t *testing.T) {
	var kids []api.Tree
	for range 1000 {
		kids = append(kids, elem("b"), elem("c", text("t")))
	}
	many := strings.Repeat("<b/><c>t</c>", 1000)
	hold(t, in(1, many), inTree(1, kids...))
	hold(t, in(62, many), inTree(62, kids...))
	refuse(t, api.ErrNest, in(63, many), in(62, many+"<b><c/></b>"), in(62, many+"<b>t<!--c--><c>"))

	full := inTree(62).Kids
	hold(t, in(1, strings.Repeat(in(62, ""), 100)), inTree(1, slices.Repeat(full, 100)...))
	refuse(t, api.ErrNest, in(1, strings.Repeat(in(62, ""), 100)+in(63, "")))
}

// What is wrong ahead of the element that lies too deep comes first, what is wrong in its name too; all else comes behind it.
func TestP81NestingAndWrong(t *testing.T) {
	outer, tooDeep := strings.Repeat("<a>", 63), "<b>"
	for _, w := range wrong {
		refuse(t, api.ErrXML, outer+w, outer+w+tooDeep, "<a>"+w+outer, w+outer+tooDeep, strings.Repeat("<a>", 62)+w+"<c>"+tooDeep)
		refuse(t, api.ErrNest, outer+tooDeep+w, outer+"<b/>"+w, outer+"<b>"+w+"</b>", outer+"t<b x='1'></b></a>"+w)
	}
	for _, w := range wrongElements {
		refuse(t, api.ErrXML, "<a>"+w+outer, w+outer+tooDeep, outer[3:]+w, outer[3:]+w+"<c>"+tooDeep)
		refuse(t, api.ErrNest, outer+w, outer+w+tooDeep, outer+tooDeep+w, outer+"<!--c-->"+w+"</a>")
	}
	for _, name := range []string{"", "1", "1b", "-b", ".", "\u00b7", "\u00d7", " b", "\nb", ":b", "?b", "!b", "!", "<b", "&#98;", ">", "="} {
		refuse(t, api.ErrXML, outer+"<"+name, outer+"<"+name+"/>", outer+"<"+name+">", outer+"<"+name+" x='1'></b>")
	}
	for _, begun := range []string{"<b", "<b ", "<b/", "<b!", "<b:c>", "<b\u00d7>", "<b\u00a0>", "<b&", "<b<", "<b'", "<b=", "<b x", "<b x>", "<b x=1>", "<b x='", "<b x='<'>", "<b x='&y;'/>", "<b x='1' x='2'/>", "<b x='1'y='2'/>", "<b / >", "<b//>", "<b 1='1'>", "<é\u00b7-.1"} {
		refuse(t, api.ErrNest, outer+begun, outer+begun+"</b>", outer+"t"+begun)
		refuse(t, api.ErrXML, outer[3:]+begun)
	}
	refuse(t, api.ErrNest, outer+tooDeep+"</c>", "<!--c-->"+outer+tooDeep, " "+outer+tooDeep+"</b>")
	refuse(t, api.ErrXML, outer, outer+"</b>", outer[3:]+"<b></c>")
	refuse(t, api.ErrXML, "<a/>"+outer+tooDeep, "x"+outer+tooDeep, outer+"]]>"+tooDeep, outer+"<!--c--"+tooDeep)
}

// A text that isn't valid is none, whatever stands ahead of that or behind it.
func TestP81NotValid(t *testing.T) {
	nested := strings.Repeat("<a>", 64)
	for _, bad := range invalid {
		refuse(t, api.ErrXML, bad, bad+"<a/>", "<a/>"+bad, "<"+bad+"/>", "<a"+bad+"/>", "<a "+bad+"x='1'/>", "<a x"+bad+"='1'/>", "<a x='"+bad+"'/>", "<a x='1'"+bad+"/>", "<a>"+bad+"</a>", "<a></a"+bad+">", "<a>&"+bad+";</a>", "<a>&lt"+bad+";</a>", "<a>&#65"+bad+";</a>", "<a><!--"+bad+"--></a>", "<!--"+bad+"--><a/>", "<a/><!--c"+bad+"-->", "<a><![CDATA["+bad+"]]></a>", "<a><b/>t"+bad+"<b/></a>")
		refuse(t, api.ErrXML, bad+nested, nested+bad, nested+"<!--"+bad+"-->", nested+" "+bad+strings.Repeat("</a>", 64), strings.Repeat("<a>", 63)+bad+"<a>")
		for _, w := range slices.Concat(wrong, wrongElements) {
			refuse(t, api.ErrXML, "<a>"+w+bad, "<a>"+bad+w)
		}
	}
}

// long is a document of so many bytes around this.
func long(count int, inner string) string {
	return "<a>" + inner + strings.Repeat("x", count-len(inner)-7) + "</a>"
}

func TestP81Long(t *testing.T) {
	const most = 1048576
	xs := strings.Repeat("x", most)
	hold(t, long(most-1, ""), one(text(xs[:most-8])))
	hold(t, long(most, ""), one(text(xs[:most-7])))
	hold(t, long(most, "<b/>&lt;"), one(elem("b"), text("<"+xs[:most-15])))
	hold(t, "<a/>"+strings.Repeat(" ", most-4), one())
	hold(t, strings.Repeat("\r\n", most/2-2)+"<a/>", one())
	hold(t, "<a/><!--"+xs[:most-11]+"-->", doc(elem("a"), comment(xs[:most-11])))
	hold(t, "<a x='"+xs[:most-9]+"'/>", doc(with(elem("a"), "x", xs[:most-9])))
	hold(t, "<"+xs[:most-3]+"/>", doc(elem(xs[:most-3])))
	hold(t, "<a><![CDATA["+xs[:most-19]+"]]></a>", one(text(xs[:most-19])))
	hold(t, "<ab>"+strings.Repeat("é", most/2-5)+"</ab> ", doc(elem("ab", text(strings.Repeat("é", most/2-5)))))
	hold(t, "<a>&#"+strings.Repeat("0", most-12)+"65;</a>", one(text("A")))
	hold(t, "<a>&#x"+strings.Repeat("0", most-13)+"41;</a>", one(text("A")))
	refuse(t, api.ErrXML, "<a>&#"+strings.Repeat("9", most-10)+";</a>", "<a>&#x1"+strings.Repeat("0", most-12)+";</a>", xs, strings.Repeat(" ", most), strings.Repeat("<", most), strings.Repeat("&", most))
	for _, w := range slices.Concat(wrong, wrongElements, invalid) {
		refuse(t, api.ErrXML, long(most, w), strings.Repeat(" ", most-len(w))+w)
		refuse(t, api.ErrLong, long(most+1, w), strings.Repeat(" ", most+1-len(w))+w)
	}
	nested := strings.Repeat("<a>", 64)
	refuse(t, api.ErrNest, nested+xs[:most-len(nested)], strings.Repeat(" ", most-len(nested))+nested)
	refuse(t, api.ErrLong, nested+xs[:most+1-len(nested)], strings.Repeat(" ", most+1-len(nested))+nested)
	refuse(t, api.ErrLong, long(most+1, ""), "<a/>"+strings.Repeat(" ", most-3), strings.Repeat("\r\n", most/2-1)+"<a/>", "<a/><!--"+xs[:most-10]+"-->", "<a>"+strings.Repeat("é", most/2-3)+"</a>", xs+"x", strings.Repeat(" ", most+1), long(2*most, ""), long(16*most, ""))
}

// encode writes a code point's bytes, of surrogates too, which string(rune) does not.
func encode(p int) string {
	if p >= 0xD800 && p < 0xE000 {
		return string([]byte{0xED, byte(0x80 | p>>6&0x3F), byte(0x80 | p&0x3F)})
	}
	return string(rune(p))
}

// listed tells whether a code point is one of XML's characters.
func listed(p int) bool {
	return p == 9 || p == 10 || p == 13 || p >= 32 && p <= 55295 || p >= 57344 && p <= 65533 || p >= 65536 && p <= 1114111
}

// Each code point stands in each place of a text, as it is and in a reference.
func TestP81EachCodePoint(t *testing.T) {
	c := counts{}
	places := []string{"%<a/>", "<a/>%", "<%/>", "<a%/>", "<a %='1'/>", "<a x%='1'/>", "<a x=%'1'/>", "<a x='%'/>", `<a x="%"/>`, "<a x='1'%/>", "<a/%>", "<a>%</a>", "<a><%</a>", "<a></%a>", "<a></a%>", "<a>&%;</a>", "<a>&lt%</a>", "<a>&#%;</a>", "<a>&#6%;</a>", "<a>&#x%;</a>", "<a><!--%--></a>", "<a><!%--c--></a>", "<a><!--c--%></a>", "<a><![CDATA[%]]></a>", "<a><![CDATA[]]%></a>", "<a>]]%</a>"}
	for p := range 0x400 {
		for _, place := range places {
			c.judged(t, strings.ReplaceAll(place, "%", encode(p)))
		}
	}
	for _, p := range []int{0x2028, 0x3000, 0xD7FF, 0xD800, 0xDBFF, 0xDC00, 0xDFFF, 0xE000, 0xFEFF, 0xFFFD, 0xFFFE, 0xFFFF, 0x10000, 0x1FFFE, 0x10FFFF} {
		for _, place := range places {
			c.judged(t, strings.ReplaceAll(place, "%", encode(p)))
		}
	}
	c.both(t, 1000, 1000)
}

func TestP81AllCodePoints(t *testing.T) {
	var decimal, hexadecimal, all strings.Builder
	// check holds what was gathered against its characters.
	check := func() {
		s := all.String()
		want := doc(with(elem("a", comment(s), text(s), comment("c"), text(s+s), comment("c"), text(s)), "x", s, "y", s))
		hold(t, "<a x='"+s+"' y='"+decimal.String()+"'><!--"+s+"-->"+s+"<!--c-->"+decimal.String()+hexadecimal.String()+"<!--c--><![CDATA["+s+"]]></a>", want)
		decimal.Reset()
		hexadecimal.Reset()
		all.Reset()
	}
	for p := range 0x110000 + 300 {
		ten, sixteen := "&#"+strconv.Itoa(p)+";", "&#x"+strconv.FormatInt(int64(p), 16)+";"
		if !listed(p) {
			refuse(t, api.ErrXML, "<a>"+ten+"</a>", "<a>"+sixteen+"</a>", "<a x='"+ten+"'/>", "<a x='"+sixteen+"'/>")
		}
		// The others below are held one by one, place by place.
		if listed(p) && p >= 0x80 {
			decimal.WriteString(ten)
			hexadecimal.WriteString(sixteen)
			all.WriteString(encode(p))
		} else if p >= 0xD800 && p < 0xE000 {
			refuse(t, api.ErrXML, "<a>"+encode(p)+"</a>", "<a x='"+encode(p)+"'/>")
		}
		if all.Len() > 10000 || p == 0x110000 {
			check()
		}
	}
}
