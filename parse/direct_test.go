package parse_test

import (
	"fmt"
	"strconv"
	"strings"
	"testing"

	"espalier/api"
)

func TestP111Directs(t *testing.T) {
	all(t,
		"<a/>", "(direct name=a)",
		"<a></a>", "(direct name=a)",
		"<a />", "(direct name=a)",
		"<a \t\r\n></a \t\r\n>", "(direct name=a)",
		"<é-1.·/>", "(direct name=é-1.·)",
		"<a>t</a>", `(direct name=a ~"t")`,
		"<a><b/></a>", "(direct name=a (direct name=b))",
		"<a>{<b/>}</a>", "(direct name=a (direct name=b))",
		"<a>{1}</a>", "(direct name=a 1)",
		"<a>{1,2}</a>", "(direct name=a (seq 1 2))",
		"<a>{()}</a>", "(direct name=a (seq))",
		"<a>{1}{2}</a>", "(direct name=a 1 2)",
		"<a>t{1}u<b/>v</a>", `(direct name=a ~"t" 1 ~"u" (direct name=b) ~"v")`,
		"<a><b>{<c>{1}</c>}</b></a>", "(direct name=a (direct name=b (direct name=c 1)))",
		"<a>{'}'}</a>", `(direct name=a "}")`,
		"<a>{ (: } :) 1 (: r :) }</a>", "(direct name=a 1)",
		"<a>{for $x in 1 return <b>{$x}</b>}</a>", "(direct name=a (flwor (for name=x 1) (direct name=b $x)))",
		"<a>{text {'{'}}</a>", `(direct name=a (text "{"))`,
		"<a>{{}}</a>", `(direct name=a ~"{}")`,
		"<a>{{1}}</a>", `(direct name=a ~"{1}")`,
		"<a>{{{1}}}</a>", `(direct name=a ~"{" 1 ~"}")`,
		"<a>&lt;&amp;&#65;&#x42;</a>", `(direct name=a ~"<&AB")`,
		"<a>]]></a>", `(direct name=a ~"]]>")`,
		"<a>></a>", `(direct name=a ~">")`,
		"<a>'\"</a>", `(direct name=a ~"'\"")`,
		"<a>\r\n</a>", "(direct name=a)",
		"<a>t\r\n\ru</a>", `(direct name=a ~"t\r\n\ru")`,
		"<a>(: r :)</a>", `(direct name=a ~"(: r :)")`,
		"<a>(:</a>", `(direct name=a ~"(:")`,
		"<a>//-->1 + 2</a>", `(direct name=a ~"//-->1 + 2")`,
		"<a/>/b", "(path (direct name=a) (step child b))",
		"<a/>[1]", "(filter (direct name=a) 1)",
		"<a/>,<b/>", "(seq (direct name=a) (direct name=b))",
		"<a/>=<b/>", "(geq (direct name=a) (direct name=b))",
		"<a/> <<<b/>", "(before (direct name=a) (direct name=b))",
		"1 <<a", "(before 1 (step child a))",
		"1 < <a/>", "(glt 1 (direct name=a))",
		"1 <= <a/>", "(gle 1 (direct name=a))",
		"<a/>>1", "(ggt (direct name=a) 1)",
		"<a>1</a>>=<b/>", `(gge (direct name=a ~"1") (direct name=b))`,
		"-<a/>", "(neg (direct name=a))",
		"a/<b/>", "(path (step child a) (direct name=b))",
		"f(<a/>)", "(call name=f (direct name=a))",
		"for $x in <a/> return<b/>", "(flwor (for name=x (direct name=a)) (direct name=b))",
		"<a/>instance of element(a)", "(instance <elem:a> (direct name=a))",
		"<div/>div<div/>", "(div (direct name=div) (direct name=div))",
		"1 (: r :) + (: r :) <a/>(: r :)", "(add 1 (direct name=a))",
	)
}

func TestP111Attributes(t *testing.T) {
	all(t,
		`<a b="1"/>`, `(direct name=a (dirattr name=b ~"1"))`,
		`<a b='1'/>`, `(direct name=a (dirattr name=b ~"1"))`,
		`<a b=""/>`, "(direct name=a (dirattr name=b))",
		`<a b='' c=""></a>`, "(direct name=a (dirattr name=b) (dirattr name=c))",
		"<a\tb\n=\r'1'  c = \"2\" >3</a>", `(direct name=a (dirattr name=b ~"1") (dirattr name=c ~"2") ~"3")`,
		`<a b="1{2}3{4}{5}"/>`, `(direct name=a (dirattr name=b ~"1" 2 ~"3" 4 5))`,
		`<a b="{1}"/>`, "(direct name=a (dirattr name=b 1))",
		`<a b="{1,2}"/>`, "(direct name=a (dirattr name=b (seq 1 2)))",
		`<a b=" {1} "/>`, `(direct name=a (dirattr name=b ~" " 1 ~" "))`,
		`<a b="  "/>`, `(direct name=a (dirattr name=b ~"  "))`,
		`<a b='{"'"}{'"'}'/>`, `(direct name=a (dirattr name=b "'" "\""))`,
		`<a b="{<c d='{1}'>{2}</c>}"/>`, "(direct name=a (dirattr name=b (direct name=c (dirattr name=d 1) 2)))",
		`<a b="{{}}"/>`, `(direct name=a (dirattr name=b ~"{}"))`,
		`<a b="{{{1}}}"/>`, `(direct name=a (dirattr name=b ~"{" 1 ~"}"))`,
		`<a b="x""y"/>`, `(direct name=a (dirattr name=b ~"x\"y"))`,
		`<a b='x''y"'/>`, `(direct name=a (dirattr name=b ~"x'y\""))`,
		`<a b=""""/>`, `(direct name=a (dirattr name=b ~"\""))`,
		`<a b="""{1}"""/>`, `(direct name=a (dirattr name=b ~"\"" 1 ~"\""))`,
		`<a b="&lt;&quot;&#10;&#9;&#13;>"/>`, `(direct name=a (dirattr name=b ~"<\"\n\t\r>"))`,
		"<a b='\r\n\t\n'/>", `(direct name=a (dirattr name=b ~"    "))`,
		`<a b="(: r :)"/>`, `(direct name=a (dirattr name=b ~"(: r :)"))`,
		`<a b="/>"/>`, `(direct name=a (dirattr name=b ~"/>"))`,
		`<a a="1" b="2" aa="3"/>`, `(direct name=a (dirattr name=a ~"1") (dirattr name=b ~"2") (dirattr name=aa ~"3"))`,
		`<a b="{<c b='1'/>}" c="2"><a b="3"/></a>`, `(direct name=a (dirattr name=b (direct name=c (dirattr name=b ~"1"))) (dirattr name=c ~"2") (direct name=a (dirattr name=b ~"3")))`,
		`<a é-1.·="{for $x in 1 return 2}"/>`, "(direct name=a (dirattr name=é-1.· (flwor (for name=x 1) 2)))",
	)
}

// Spaces count in content, if they aren't alone between tags, braces and ends, or if one of them is a reference.
func TestP111SpacesInContent(t *testing.T) {
	all(t,
		"<a> </a>", "(direct name=a)",
		"<a> \t\r\n{1} \n<b/> {2}{3} </a>", "(direct name=a 1 (direct name=b) 2 3)",
		"<a> <b> </b> </a>", "(direct name=a (direct name=b))",
		"<a>&#32;</a>", `(direct name=a ~" ")`,
		"<a> &#x20; </a>", `(direct name=a ~"   ")`,
		"<a>\n&#9;</a>", `(direct name=a ~"\n\t")`,
		"<a>&#13;</a>", `(direct name=a ~"\r")`,
		"<a>{1}&#32;{2}</a>", `(direct name=a 1 ~" " 2)`,
		"<a> {{ </a>", `(direct name=a ~" { ")`,
		"<a> }} </a>", `(direct name=a ~" } ")`,
		"<a> t </a>", `(direct name=a ~" t ")`,
		"<a> t {1} u </a>", `(direct name=a ~" t " 1 ~" u ")`,
		"<a>\u00a0</a>", "(direct name=a ~\"\\u00a0\")",
		"<a>\u0085</a>", "(direct name=a ~\"\\u0085\")",
		"<a> {' '} </a>", `(direct name=a " ")`,
	)
}

func TestP111NoDirects(t *testing.T) {
	refuse(t, api.ErrSyntax,
		"<", "<a", "<a ", "<a/", "<a>", "<a><", "<a></", "<a></a", "<a></a ", "<a>t", "<a>{", "<a>{1", "<a>{1}", "<a>{1}<", "<a b", "<a b=", "<a b='", "<a b='1", "<a b='1'", "<a b='{", "<a b='{1", "<a b='{1}",
		"<a></b>", "<a></ab>", "<ab></a>", "<a></A>", "<a><b></a></b>", "<a></a></a>", "<a/></a>", "</a>", "<a></ a>", "<a></>", "<a></a b='1'>", "<a></a/>", "<a>< /a>", "<a></\na>", "<a></(::)a>",
		"< a/>", "< a>1</a>", "<1/>", "<-a/>", "<a:b/>", "<a:b></a:b>", "<(::)a/>", "<\u00d7/>", "<a\u00d7/>", "<a / >", "<a/ >", "<a>< b/></a>", "<a><1/></a>", "<a><(b)/></a>", "<a(::)/>", "<a (::)/>",
		"<a b/>", "<a b=/>", "<a b=1/>", "<a b='1\"/>", "<a b=\"1'/>", "<a 'b'='1'/>", "<a ='1'/>", "<a b=='1'/>", "<a b:c='1'/>", "<a 1b='1'/>", "<a $b='1'/>", "<a b={1}/>", "<a {1}='1'/>", "<a {1}/>", "<a b='<'/>", "<a b='<c/>'/>", "<a b='&'/>", "<a b='&x;'/>", "<a b='&#0;'/>", "<a b='}'/>", "<a b='{}'/>", "<a b='{1}}'/>", "<a b='{{1}'/>", "<a b='1''/>", "<a b='1'c='2'/>", "<a b='1'/c='2'/>", "<ab='1'/>", "<a (::)b='1'/>", "<a b(::)='1'/>", "<a b=(::)'1'/>", "<a b :='1'/>",
		"<a b='1' b='2'/>", "<a b='1' c='2' b='1'/>", "<a b='' b=''></a>", "<a b='1' b/>", "<a b='1' b",
		"<a>}</a>", "<a>{}</a>", "<a>{ }</a>", "<a>{(::)}</a>", "<a>{1}}</a>", "<a>{{1}</a>", "<a>{,}</a>", "<a>{1,}</a>", "<a>{1 2}</a>", "<a>{1;}</a>", "<a>{1{2}}</a>", "<a>{</a>}</a>", "<a>{'</a>", "<a>{(:}</a>", "<a>&</a>", "<a>&x;</a>", "<a>&lt</a>", "<a>&#xD800;</a>", "<a><!--c--></a>", "<a><![CDATA[t]]></a>", "<a><?p?></a>", "<!--c-->", "<?p?>", "<![CDATA[t]]>",
		"<a/>b", "<a/>1", "<a/> <b/>", "<a/><b/>", "<a></a><b></b>", "<a/>t", "<a>1</a>2", "a<b/>", "1<b/>", "1 <b/>", "(<a>)", "(<a>)</a>", "<a>{<b>}</b></a>", "f(<a>,</a>,1", "<<a/>", "<=<a/>", "1 <<<<a/>", "<a/><<b/>", "a<b>c",
	)
	hold(t, "<a>(</a>", `(direct name=a ~"(")`)
	hold(t, "1 <a", "(glt 1 (step child a))")
	hold(t, "1<a", "(glt 1 (step child a))")
}

// Each character of a Direct's content and of a value says itself, or needs to be doubled or made a reference; what is printed says it again.
func TestP112DirectCharacters(t *testing.T) {
	for c := rune(0); c < 0x100; c++ {
		if c < 32 && c != 9 && c != 10 && c != 13 {
			refuse(t, api.ErrSyntax, "<a>"+string(c)+"</a>", "<a b='"+string(c)+"'/>")
			continue
		}
		ref := fmt.Sprintf("&#%d;", c)
		for _, said := range []string{"", "x", " ", "{", "'", "\"\""} {
			want := string(c) + said + string(c)
			written := ref + strings.NewReplacer("{", "{{", `"`, "&quot;", "'", "&#39;").Replace(said) + ref
			tail := " ~" + strconv.Quote(want) + ")"
			hold(t, "<a>"+written+"</a>", "(direct name=a"+tail)
			hold(t, "<a b='"+written+"'/>", "(direct name=a (dirattr name=b"+tail+")")
			hold(t, "<a b=\"{1}"+written+"{2}\">{3}"+written+"{4}</a>", "(direct name=a (dirattr name=b 1 ~"+strconv.Quote(want)+" 2) 3 ~"+strconv.Quote(want)+" 4)")
		}
	}
}
