package xml_test

import (
	"testing"

	"espalier/api"
)

func TestP81Examples(t *testing.T) {
	hold(t, `<a x="1">t<b/></a>`, doc(with(elem("a", text("t"), elem("b")), "x", "1")))
	hold(t, "<a>&#x41;<![CDATA[<]]></a>", one(text("A<")))
	hold(t, "<a x='&#10;\n'/>", doc(with(elem("a"), "x", "\n ")))
	refuse(t, api.ErrXML, "<a>", "<a></b>", `<a x="1" x="2"/>`, "<a/><b/>", "<a>]]></a>", "<a>&x;</a>", "")
}

func TestP81Elements(t *testing.T) {
	for s, want := range map[string]api.Tree{
		"<a/>":                      one(),
		"<a />":                     one(),
		"<a\t\r\n />":               one(),
		"<a></a>":                   one(),
		"<a ></a >":                 one(),
		"<a\n></a\r\n\t >":          one(),
		"<a> </a>":                  one(text(" ")),
		"<a><b></b></a>":            one(elem("b")),
		"<a><a><a/></a><a/></a>":    one(elem("a", elem("a")), elem("a")),
		"<a> <b/>\t<c/></a>":        one(text(" "), elem("b"), text("\t"), elem("c")),
		"<a>t<b>u</b>v<c>w</c></a>": one(text("t"), elem("b", text("u")), text("v"), elem("c", text("w"))),
		"<a>/</a>":                  one(text("/")),
		"<a>></a>":                  one(text(">")),
		"<a>='\"!?-[]</a>":          one(text("='\"!?-[]")),
		"<ab><a></a></ab>":          doc(elem("ab", elem("a"))),
		"<Aa/>":                     doc(elem("Aa")),
		"<_/>":                      doc(elem("_")),
		"<a-1._\u00b7é/>":           doc(elem("a-1._\u00b7é")),
		"<a-></a->":                 doc(elem("a-")),
		"<é></é>":                   doc(elem("é")),
		"<a\u3000/>":                doc(elem("a\u3000")),
		"<\U0001F600/>":             doc(elem("\U0001F600")),
	} {
		hold(t, s, want)
	}
}

func TestP81NoElements(t *testing.T) {
	refuse(t, api.ErrXML,
		"<", "<a", "<a ", "<a/", "<a>", "<a>t", "<a><", "<a></", "<a></a", "<a></a ", "<a><b></a>", "<a></a></a>", "</a>", "</>", "<>", "<></>", "</a><a>",
		"<a></b>", "<a></ab>", "<ab></a>", "<a></A>", "<a><b></a></b>", "<a></ a>", "<a>< /a>", "<a><//a>", "<a></a/>", `<a></a x="1">`, "<a></>", "<a></1>",
		"< a/>", "<a/ >", "<a / >", "<a//>", "<a/x>", "<a <b/>", "<a<b/>>", "<a>></a><", "<a><</a>",
		"<1/>", "<-a/>", "<./>", "<\u00b7/>", "<\u00d7/>", "<a\u00d7/>", "<a\u00f7/>", "<a:b/>", "<:a/>", "<a!/>", "<a&#65;/>", "<&#97;/>", "<'a'/>", "<a\u0085/>", "<a\u00a0/>", "<a\u00a0x='1'/>",
	)
}

func TestP81Attributes(t *testing.T) {
	for s, want := range map[string][]string{
		`<a x="1"/>`:                         {"x", "1"},
		`<a x='1'/>`:                         {"x", "1"},
		`<a x="1" ></a>`:                     {"x", "1"},
		`<a x=""/>`:                          {"x", ""},
		`<a x=''/>`:                          {"x", ""},
		`<a x="1" y="2" a="3"/>`:             {"x", "1", "y", "2", "a", "3"},
		`<a y="1" x="1"/>`:                   {"y", "1", "x", "1"},
		`<a x="1" X="2" xx="3"/>`:            {"x", "1", "X", "2", "xx", "3"},
		"<a\n\tx = \r\n'1'\ry\n=\"2\"\t\t/>": {"x", "1", "y", "2"},
		`<a é-1.="ü"/>`:                      {"é-1.", "ü"},
		`<a x="'" y='"'/>`:                   {"x", "'", "y", `"`},
		`<a x="'a'" y='"b"'/>`:               {"x", "'a'", "y", `"b"`},
		`<a x="&quot;&apos;" y='&apos;&#34;&#x27;'/>`:     {"x", `"'`, "y", `'"'`},
		`<a x=">" y="/>" z="=" w="]]>" v="--"/>`:          {"x", ">", "y", "/>", "z", "=", "w", "]]>", "v", "--"},
		`<a x="&lt;b/&gt;&amp;" y="&amp;lt;"/>`:           {"x", "<b/>&", "y", "&lt;"},
		"<a x=' 1  2 '/>":                                 {"x", " 1  2 "},
		"<a x='\t1\n2\r3\r\n4\n\r5\r\r\n6\t\t'/>":         {"x", " 1 2 3 4  5  6  "},
		"<a x='&#9;&#10;&#13;&#x9;&#xA;&#xd;&#32;'/>":     {"x", "\t\n\r\t\n\r "},
		"<a x='\t&#9;\n&#10;\r&#13;\n&#13;\n'/>":          {"x", " \t \n \r \r "},
		"<a x='\u00a0\u0085\u2028'/>":                     {"x", "\u00a0\u0085\u2028"},
		`<a x="1"` + "\n" + `y="2"><!--c-->` + "</a\t>\n": {"x", "1", "y", "2"},
	} {
		want := with(elem("a"), want...)
		if s[len(s)-1] == '\n' {
			want.Kids = []api.Tree{comment("c")}
		}
		hold(t, s, doc(want))
	}
	hold(t, `<a x="1"><b x="2" y="3"/><c x='1'/></a>`, doc(with(elem("a", with(elem("b"), "x", "2", "y", "3"), with(elem("c"), "x", "1")), "x", "1")))
}

func TestP81NoAttributes(t *testing.T) {
	refuse(t, api.ErrXML,
		"<a x/>", "<a x></a>", "<a x=/>", "<a x= />", "<a x=1/>", "<a =\"1\"/>", "<a \"1\"/>", "<a x==\"1\"/>", "<a x y=\"1\"/>", "<a x\"1\"/>", "<a x=\"1\"\"/>", "<a x=\"1\"x/>",
		`<a x="1"y="2"/>`, `<ax="1"/>`, `<a x="1'/>`, `<a x='1"/>`, `<a x="1/>`, `<a x="1`, `<a x="1"`, `<a x="1" `, `<a x="`, `<a x=`, `<a x`, `<a x=""1"/>`, "<a x=`1`/>",
		`<a x="<"/>`, `<a x='<'/>`, `<a x="1<"/>`, `<a x="<b/>"/>`, `<a x="&"/>`, `<a x="& "/>`, `<a x="&x;"/>`, `<a x="&lt"/>`, `<a x="1&#0;"/>`, `<a x="&quot;/>`, `<a x="<!--c-->"/>`,
		`<a x="1" x="2"/>`, `<a x="1" x="1"/>`, `<a x="1" y="2" x="3"/>`, `<a x="" x=''></a>`, `<b><a y="1" x="1" x="2"/></b>`, `<a é="1" é="2"/>`,
		`<a 1="1"/>`, `<a -x="1"/>`, `<a x:y="1"/>`, "<a x\u00d7=\"1\"/>", `<a "x"="1"/>`, `<a &#120;="1"/>`, `<a/x="1">`, `<a x="1"/ >`, `<a <!--c-->/>`, `<a <!--c-->x="1"/>`,
		"<a x\u00a0=\"1\"/>", "<a x=\u0085\"1\"/>", "<a\u2028x=\"1\"y=\"2\"/>",
	)
}

func TestP81References(t *testing.T) {
	for said, want := range map[string]string{
		"&lt;&gt;&amp;&quot;&apos;":            "<>&\"'",
		"a&lt;b":                               "a<b",
		"&amp;lt;":                             "&lt;",
		"&amp;#65;":                            "&#65;",
		"&#38;lt;&#60;b/&#62;":                 "&lt;<b/>",
		"&#65;&#x41;&#x61;":                    "AAa",
		"&#00065;&#x00041;&#0000000000000065;": "AAA",
		"&#xe9;&#xE9;&#233;":                   "ééé",
		"&#xaBcD;&#xAbCd;":                     "\uabcd\uabcd",
		"&#9;&#10;&#13;&#32;":                  "\t\n\r ",
		"&#xD;\r\n&#xd;\n":                     "\r\n\r\n",
		"&#55295;&#xD7FF;&#57344;&#xE000;":     "\ud7ff\ud7ff\ue000\ue000",
		"&#65533;&#xFFFD;&#65536;&#x10000;":    "\ufffd\ufffd\U00010000\U00010000",
		"&#1114111;&#x10FFFF;&#x10ffff;":       "\U0010ffff\U0010ffff\U0010ffff",
		"x&#x20;;":                             "x ;",
		"&#183;&#x300;":                        "\u00b7\u0300",
	} {
		hold(t, "<a>"+said+"</a>", one(text(want)))
	}
	hold(t, `<a x="&#xe9;&#00233;&lt;&#x10FFFF;"/>`, doc(with(elem("a"), "x", "éé<\U0010ffff")))
}

func TestP81NoReferences(t *testing.T) {
	for _, s := range []string{
		"&", "&;", "& lt;", "&lt ;", "&lt", "&LT;", "&Lt;", "&lt;&", "&l;", "&ltx;", "&nbsp;", "&x;", "&é;", "&&lt;", "&lt&gt;",
		"&#;", "&#x;", "&#X41;", "&#xG;", "&#x4G;", "&#4A;", "&#A;", "&#+65;", "&#-65;", "&#x+41;", "&#x-41;", "&# 65;", "&#65 ;", "&#x 41;", "&#6 5;", "&#6_5;", "&#x4_1;", "&#0x41;", "&#0b1000001;", "&#0o101;", "&#65.0;", "&#x41", "&#65", "&#", "&#x", "& #65;", "&##65;", "&x41;", "&65;", "&#\u0661;", "&#xx41;", "&#65,;",
		"&#0;", "&#x0;", "&#00;", "&#1;", "&#8;", "&#11;", "&#12;", "&#14;", "&#31;", "&#xB;", "&#x1f;", "&#55296;", "&#xD800;", "&#xdfff;", "&#57343;", "&#65534;", "&#65535;", "&#xFFFE;", "&#xffff;", "&#1114112;", "&#x110000;",
		"&#2147483713;", "&#4294967296;", "&#4294967361;", "&#9223372036854775873;", "&#18446744073709551616;", "&#18446744073709551681;", "&#x80000041;", "&#x100000041;", "&#x8000000000000041;", "&#x10000000000000041;", "&#99999999999999999999999999999999;",
	} {
		refuse(t, api.ErrXML, "<a>"+s+"</a>", "<a x='"+s+"'/>", "<a>t"+s+"<b/></a>", s+"<a/>")
	}
}

func TestP81CDATA(t *testing.T) {
	for said, want := range map[string][]api.Tree{
		"<![CDATA[]]>":                                   nil,
		"<![CDATA[]]><![CDATA[]]>":                       nil,
		"<![CDATA[ ]]>":                                  {text(" ")},
		"<![CDATA[<b/>&lt;&#65;&x;</a>]]>":               {text("<b/>&lt;&#65;&x;</a>")},
		"<![CDATA[<![CDATA[]]>":                          {text("<![CDATA[")},
		"<![CDATA[<!--c--]]>":                            {text("<!--c--")},
		"<![CDATA[]]]>":                                  {text("]")},
		"<![CDATA[]]]]>":                                 {text("]]")},
		"<![CDATA[]>]]>":                                 {text("]>")},
		"<![CDATA[] ]>]]>":                               {text("] ]>")},
		"<![CDATA[]]]]><![CDATA[>]]>":                    {text("]]>")},
		"<![CDATA[]]]]>>":                                {text("]]>")},
		"]]<![CDATA[>]]>":                                {text("]]>")},
		"]<![CDATA[]]>]>":                                {text("]]>")},
		"]]<![CDATA[]]>>":                                {text("]]>")},
		"<![CDATA[x]]>]>":                                {text("x]>")},
		"t<![CDATA[u]]>v":                                {text("tuv")},
		"t<![CDATA[]]>v":                                 {text("tv")},
		"<![CDATA[u]]>&lt;<![CDATA[v]]>":                 {text("u<v")},
		"<![CDATA[]]><b/><![CDATA[]]>":                   {elem("b")},
		"<![CDATA[u]]><b/><![CDATA[v]]>":                 {text("u"), elem("b"), text("v")},
		"<!--c--><![CDATA[]]><!--d-->":                   {comment("c"), comment("d")},
		"<!--c--><![CDATA[u]]><!--d-->":                  {comment("c"), text("u"), comment("d")},
		"&#9;<![CDATA[]]>\t<![CDATA[\r\n\r]]>\r<b/>\r\n": {text("\t\t\n\n\n"), elem("b"), text("\n")},
		"<b><![CDATA[]]></b>":                            {elem("b")},
	} {
		hold(t, "<a>"+said+"</a>", one(want...))
	}
	refuse(t, api.ErrXML,
		"<a><![CDATA[", "<a><![CDATA[x", "<a><![CDATA[x]]", "<a><![CDATA[x</a>", "<a><![CDATA[x]]</a>", "<a><![CDATA[x]></a>", "<a><![CDATA[x]] ></a>", "<a><![CDATA[]></a>", "<a><![CDATA[]]</a>",
		"<a><![cdata[x]]></a>", "<a><![CDATA x]]></a>", "<a><! [CDATA[x]]></a>", "<a><![ CDATA[x]]></a>", "<a><![CDATA [x]]></a>", "<a><[CDATA[x]]></a>", "<a><![CDATA[x]]>]]></a>", "<a><![CDATA[x]]>]]>",
		"<![CDATA[x]]>", "<![CDATA[]]><a/>", "<a/><![CDATA[]]>", "<![CDATA[ ]]><a/>", "<a/><![CDATA[ ]]>", "<![CDATA[<a/>]]>", "<a x='<![CDATA[1]]>'/>", "<a <![CDATA[]]>/>",
	)
}

func TestP81Comments(t *testing.T) {
	for said, want := range map[string]string{
		"<!---->":                       "",
		"<!--c-->":                      "c",
		"<!-- - c - -->":                " - c - ",
		"<!--->-->":                     "->",
		"<!--a-b-c-->":                  "a-b-c",
		"<!---c-->":                     "-c",
		"<!-->-->":                      ">",
		"<!-->>-->":                     ">>",
		"<!--<a>&lt;&x;&</a>]]>-->":     "<a>&lt;&x;&</a>]]>",
		"<!--<![CDATA[]]>-->":           "<![CDATA[]]>",
		"<!--<!-c-->":                   "<!-c",
		"<!--\t \r\n\r\r\n\n\r-->":      "\t \n\n\n\n\n",
		"<!--é\u0085\U0010ffff-->":      "é\u0085\U0010ffff",
		"<!--c>-->":                     "c>",
		"<!--- c-->":                    "- c",
		"<!--<?xml?><!DOCTYPE a []>-->": "<?xml?><!DOCTYPE a []>",
	} {
		c := comment(want)
		hold(t, said+"<a/>", doc(c, elem("a")))
		hold(t, "<a/>"+said, doc(elem("a"), c))
		hold(t, "<a>"+said+"</a>", one(c))
		hold(t, " "+said+"\n"+said+"\r\n<a>t"+said+"<b/>"+said+said+" </a>\t"+said+said, doc(c, c, elem("a", text("t"), c, elem("b"), c, c, text(" ")), c, c))
	}
	for _, s := range []string{
		"<!--", "<!--c", "<!--c-", "<!--c--", "<!--c->", "<!-->", "<!--->", "<!--c--->", "<!----->", "<!------>", "<!--a--b-->", "<!--a-- -->", "<!--a--", "<!-- -- -->", "<!-c-->", "<!- -c-->", "<! --c-->", "< !--c-->", "<!--c-- >", "<-- c -->", "<!--c--!>", "<!>", "<!",
	} {
		refuse(t, api.ErrXML, s, s+"<a/>", "<a/>"+s, "<a>"+s+"</a>")
	}
	refuse(t, api.ErrXML, "--c--><a/>", "<a/>-->", "<!--c-->", "<!--c--><!--d-->", "<a <!--c-->/>", "<a></a<!--c-->>", "<<!--c-->a/>")
}

// What stands between two tags or comments is one Text, however it is said.
func TestP81TextsComeTogether(t *testing.T) {
	for said, want := range map[string][]api.Tree{
		"t&amp;u<![CDATA[v]]>&#119;x": {text("t&uvwx")},
		"&lt;<b/>&gt;":                {text("<"), elem("b"), text(">")},
		"t<!--c-->u":                  {text("t"), comment("c"), text("u")},
		"<!--c-->&lt;<!--d-->":        {comment("c"), text("<"), comment("d")},
		"<b/><b/>":                    {elem("b"), elem("b")},
		"t<b>u</b>v<b/>&#32;":         {text("t"), elem("b", text("u")), text("v"), elem("b"), text(" ")},
		" \n <b/> \t <b/> \n ":        {text(" \n "), elem("b"), text(" \t "), elem("b"), text(" \n ")},
		"]]&gt;":                      {text("]]>")},
		"]&#93;>":                     {text("]]>")},
		"&#93;]>":                     {text("]]>")},
		"]]&#62;&#x5d;]>":             {text("]]>]]>")},
		"]]<b/>>":                     {text("]]"), elem("b"), text(">")},
		"]]<!---->>":                  {text("]]"), comment(""), text(">")},
		"]] >] ]>]>]]":                {text("]] >] ]>]>]]")},
		"&quot;\"&apos;'":             {text("\"\"''")},
	} {
		hold(t, "<a>"+said+"</a>", one(want...))
	}
	refuse(t, api.ErrXML, "<a>]]></a>", "<a>t]]></a>", "<a>]]>t</a>", "<a>]]]></a>", "<a>]]]]></a>", "<a>&lt;]]></a>", "<a>]]>&lt;</a>", "<a><b/>]]></a>", "<a><b>]]></b></a>", "<a>]]><b/></a>", "<a>]]>&x;</a>")
}

func TestP81LineEnds(t *testing.T) {
	for said, want := range map[string]string{
		"\r": "\n", "\n": "\n", "\r\n": "\n", "\n\r": "\n\n", "\r\r": "\n\n", "\r\r\n": "\n\n", "\r\n\r\n": "\n\n", "\r\n\n": "\n\n", "\r\n\r": "\n\n", "\n\r\n": "\n\n", "\r\r\n\n\r": "\n\n\n\n",
		"\r&#10;": "\n\n", "&#13;\n": "\r\n", "&#13;\r\n&#10;": "\r\n\n", "\r \n": "\n \n",
		"\r<![CDATA[\n]]>": "\n\n", "<![CDATA[\r]]>\n": "\n\n", "<![CDATA[\r\n]]>": "\n",
	} {
		hold(t, "<a>"+said+"</a>", one(text(want)))
		hold(t, "<a>t"+said+"u</a>", one(text("t"+want+"u")))
	}
	hold(t, "\r\n<a\r\nx\r=\r\n'1'\r>\r</a\r>\r\n\r", doc(with(elem("a", text("\n")), "x", "1")))
	hold(t, "<a>\r<!--\r-->\n</a>", one(text("\n"), comment("\n"), text("\n")))
}

func TestP81Outside(t *testing.T) {
	hold(t, " \t\r\n<a/>\n\r\t ", one())
	hold(t, "<!--1--><!--2--> <a/> <!--3-->\n<!--4-->", doc(comment("1"), comment("2"), elem("a"), comment("3"), comment("4")))
	for _, s := range []string{"x", "&#32;", "&lt;", "&#x9;", "<![CDATA[]]>", "]]>", "\u00a0", "\u0085", "\u2028", "\ufeff", "\u3000", "-->", "/", ">", "<b/>", "<a></a>", "</a>", "<"} {
		refuse(t, api.ErrXML, s+"<a/>", "<a/>"+s, " "+s+" <a/>", "<a/> "+s+" ", "<!--c-->"+s+"<a/>", "<a/><!--c-->"+s)
	}
	refuse(t, api.ErrXML, "", " ", "\r\n", "\t \n", "<!--c-->", " <!--c--> ", "t", "&lt;", "<a/><a/>", "<a></a><b></b>", "<a/> <b/>", "<a/><!--c--><b/>")
}

// Declarations, processing instructions and document types are none of the form, wherever they stand.
func TestP81NotInTheForm(t *testing.T) {
	for _, s := range []string{`<?xml version="1.0"?>`, "<?p?>", "<?p d?>", "<??>", "<!DOCTYPE a>", "<!DOCTYPE a []>", `<!DOCTYPE a SYSTEM "a.dtd">`, "<!ELEMENT a ANY>", `<!ENTITY x "1">`, "<!x>", "<!>", "<![INCLUDE[]]>", "<![]]>"} {
		refuse(t, api.ErrXML, s, s+"<a/>", s+"\n<a/>", "<a/>"+s, "<a>"+s+"</a>", "<a><b/>"+s+"t</a>", "<!--c-->"+s+"<a/>")
	}
}
