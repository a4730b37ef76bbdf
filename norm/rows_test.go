package norm_test

import (
	"fmt"
	"strings"
	"testing"

	"espalier/api"
	"espalier/parse"
)

// atFront declares what the rows ask for.
const atFront = "declare variable $v := 0; declare function local:n() {0}; declare function local:o($a as xs:integer) {0}; declare function local:w($a, $b as xs:string*) as node() {<e/>}; "

// wholes are texts that are no steps, and the notation of their cores.
const wholes = `
1 => 1
007 => 7
1.50 => 15e-1
'a' => "a"
"" => ""
$v => $v
. => .
/ => root
() => seq()
1, 2 => seq(1, 2)
1, (2, 3), () => seq(1, seq(2, 3), seq())
a, b => seq(path(., child::a), path(., child::b))
1 to 2 => range(1, 2)
1 + 2 - 3 => sub(add(1, 2), 3)
-1 => neg(1)
- -1 => neg(neg(1))
+1 => 1
-a => neg(path(., child::a))
1 + a => add(1, path(., child::a))
a eq b => veq(path(., child::a), path(., child::b))
if (1) then 2 else 3 => if(1, 2, 3)
if (a) then b else c => if(path(., child::a), path(., child::b), path(., child::c))
some $s in 1 satisfies 2 => some $s(1, 2)
some $s in a satisfies b => some $s(path(., child::a), path(., child::b))
some $s in 1, $t in 2 satisfies $s => some $s(1, some $t(2, $s))
every $s in 1 satisfies 2 => every $s(1, 2)
every $s in 1, $t in $s, $u in 3 satisfies 4 => every $s(1, every $t($s, every $u(3, 4)))
1 instance of xs:integer => instance xs:integer(1)
a instance of element(a)* => instance element(a)*(path(., child::a))
1 instance of empty-sequence() => instance empty-sequence()(1)
1 instance of item()* => instance item()*(1)
1 treat as item()* => treat item()*(1)
a treat as node()? => treat node()?(path(., child::a))
1 cast as xs:integer => cast xs:integer(1)
a cast as xs:untypedAtomic? => cast xs:untypedAtomic?(path(., child::a))
1 castable as xs:decimal => castable xs:decimal(1)
a castable as xs:anyAtomicType? => castable xs:anyAtomicType?(path(., child::a))
typeswitch (1) case xs:integer return 2 default return 3 => switch(1, case xs:integer(2), case item()*(3))
typeswitch (a) case $s as node()+ return $s case item()* return b default $t return $t => switch(path(., child::a), case $s as node()+($s), case item()*(path(., child::b)), case $t as item()*($t))
a union b => union(path(., child::a), path(., child::b))
a | b => union(path(., child::a), path(., child::b))
a intersect b => intersect(path(., child::a), path(., child::b))
a except b => except(path(., child::a), path(., child::b))
1[2] => filter(1, 2)
1[2][3] => filter(filter(1, 2), 3)
.[1] => filter(., 1)
(/)[1] => filter(root, 1)
$v[a] => filter($v, path(., child::a))
()[1] => filter(seq(), 1)
(1, 2)[.] => filter(seq(1, 2), .)
(a, b)[1] => filter(seq(path(., child::a), path(., child::b)), 1)
(a/b)[1] => filter(path(path(., child::a), child::b), 1)
(a/b)[1][c] => filter(filter(path(path(., child::a), child::b), 1), path(., child::c))
(/a)[1] => filter(path(root, child::a), 1)
(//a)[1] => filter(path(path(root, descendant-or-self::node()), child::a), 1)
(-a)[1] => filter(neg(path(., child::a)), 1)
string()[1] => filter(call string(.), 1)
(a[1] union b)[2] => filter(union(path(., filter(child::a, 1)), path(., child::b)), 2)
a/b => path(path(., child::a), child::b)
a/b/c => path(path(path(., child::a), child::b), child::c)
a//b => path(path(path(., child::a), descendant-or-self::node()), child::b)
/a => path(root, child::a)
/a/b => path(path(root, child::a), child::b)
//a => path(path(root, descendant-or-self::node()), child::a)
//a//b => path(path(path(path(root, descendant-or-self::node()), child::a), descendant-or-self::node()), child::b)
a/@b => path(path(., child::a), attribute::b)
a/.. => path(path(., child::a), parent::node())
a[1]/b[2] => path(path(., filter(child::a, 1)), filter(child::b, 2))
a/b[1][2] => path(path(., child::a), filter(filter(child::b, 1), 2))
a/b[c] => path(path(., child::a), filter(child::b, path(., child::c)))
a/b[c/d] => path(path(., child::a), filter(child::b, path(path(., child::c), child::d)))
a//b[1] => path(path(path(., child::a), descendant-or-self::node()), filter(child::b, 1))
/a[1] => path(root, filter(child::a, 1))
//a[1][b] => path(path(root, descendant-or-self::node()), filter(filter(child::a, 1), path(., child::b)))
a/(b) => path(path(., child::a), child::b)
a/(b[1])[2] => path(path(., child::a), filter(filter(child::b, 1), 2))
a/(b/c) => path(path(., child::a), path(path(., child::b), child::c))
a/(b/c/d) => path(path(., child::a), path(path(path(., child::b), child::c), child::d))
a/(b/(c/d)) => path(path(., child::a), path(path(., child::b), path(path(., child::c), child::d)))
a/(b/c)/d => path(path(path(., child::a), path(path(., child::b), child::c)), child::d)
(a/b)/c => path(path(path(., child::a), child::b), child::c)
a/(b/c)[1] => path(path(., child::a), filter(path(path(., child::b), child::c), 1))
a/(b//c) => path(path(., child::a), path(path(path(., child::b), descendant-or-self::node()), child::c))
a/(/) => path(path(., child::a), root)
a/(/b) => path(path(., child::a), path(root, child::b))
a/. => path(path(., child::a), .)
./a => path(., child::a)
./. => path(., .)
.//a => path(path(., descendant-or-self::node()), child::a)
a/1 => path(path(., child::a), 1)
1/a => path(1, child::a)
a/(b, c) => path(path(., child::a), seq(path(., child::b), path(., child::c)))
(a, b)/c => path(seq(path(., child::a), path(., child::b)), child::c)
a/(b, c)[1] => path(path(., child::a), filter(seq(path(., child::b), path(., child::c)), 1))
(a, b)[1]/c => path(filter(seq(path(., child::a), path(., child::b)), 1), child::c)
a/string() => path(path(., child::a), call string(.))
a/string(b) => path(path(., child::a), call string(path(., child::b)))
a/string(.) => path(path(., child::a), call string(.))
$v/a => path($v, child::a)
a/$v/b => path(path(path(., child::a), $v), child::b)
a/(b | c) => path(path(., child::a), union(path(., child::b), path(., child::c)))
a/(if (b) then c else d) => path(path(., child::a), if(path(., child::b), path(., child::c), path(., child::d)))
a/(for $x in b return c)/d => path(path(path(., child::a), for $x(path(., child::b), path(., child::c))), child::d)
a/<e>{b}</e>/c => path(path(path(., child::a), elem("e", path(., child::b))), child::c)
xs:integer(1) => cast xs:integer?(1)
xs:decimal(a) => cast xs:decimal?(path(., child::a))
xs:string(.) => cast xs:string?(.)
xs:boolean(()) => cast xs:boolean?(seq())
xs:untypedAtomic((1, 2)) => cast xs:untypedAtomic?(seq(1, 2))
xs:integer(xs:string(xs:integer(a))) => cast xs:integer?(cast xs:string?(cast xs:integer?(path(., child::a))))
string() => call string(.)
string-length() => call string-length(.)
normalize-space() => call normalize-space(.)
name() => call name(.)
root() => call root(.)
fn:name() => call name(.)
string(a) => call string(path(., child::a))
root(root()) => call root(call root(.))
error() => call error()
error(a) => call error(path(., child::a))
position() => call position()
last() => call last()
true() => call true()
false() => call false()
count(a) => call count(path(., child::a))
fn:count((1, a)) => call count(seq(1, path(., child::a)))
concat(1, a, string()) => call concat(1, path(., child::a), call string(.))
doc('d')//a => path(path(call doc("d"), descendant-or-self::node()), child::a)
local:n() => call local:n()
local:o(1) => call local:o(convert xs:integer(1))
local:o(a) => call local:o(convert xs:integer(path(., child::a)))
local:w(1, 2) => call local:w(1, convert xs:string*(2))
local:w(a, b[1]) => call local:w(path(., child::a), convert xs:string*(path(., filter(child::b, 1))))
local:w(local:o(1), local:n()) => call local:w(call local:o(convert xs:integer(1)), convert xs:string*(call local:n()))
local:o(local:o(a))/b => path(call local:o(convert xs:integer(call local:o(convert xs:integer(path(., child::a))))), child::b)
for $x in 1 return 2 => for $x(1, 2)
for $x in a return b => for $x(path(., child::a), path(., child::b))
for $x at $p in 1 return $p => for $x at $p(1, $p)
let $x := 1 return $x => let $x(1, $x)
let $x := a return b => let $x(path(., child::a), path(., child::b))
for $x in 1 where 2 return 3 => for $x(1, if(2, 3, seq()))
for $x in a where b return c => for $x(path(., child::a), if(path(., child::b), path(., child::c), seq()))
let $x := 1 where 2 return 3 => let $x(1, if(2, 3, seq()))
for $x in 1, $y at $q in 2 return 3 => for $x(1, for $y at $q(2, 3))
for $x in 1 let $y := 2 for $z in 3 where 4 return 5 => for $x(1, let $y(2, for $z(3, if(4, 5, seq()))))
let $x := 1, $y := 2 for $z at $p in 3, $w in 4 return 5 => let $x(1, let $y(2, for $z at $p(3, for $w(4, 5))))
for $x in 1 order by 2 return 3 => order $x(1, true, 2, 3)
for $x in a order by b return c => order $x(path(., child::a), true, path(., child::b), path(., child::c))
for $x in 1 order by 2 ascending return 3 => order $x(1, true, 2, 3)
for $x in 1 order by 2 descending return 3 => order $x down(1, true, 2, 3)
for $x at $p in 1 order by $p return $x => order $x at $p(1, true, $p, $x)
for $x in 1 where 2 order by 3 return 4 => order $x(1, 2, 3, 4)
for $x at $p in a where b order by c descending return d => order $x at $p down(path(., child::a), path(., child::b), path(., child::c), path(., child::d))
for $x in 1 return for $y in 2 order by 3 return 4 => for $x(1, order $y(2, true, 3, 4))
element a {1} => elem("a", 1)
element a {} => elem("a", seq())
element a {b} => elem("a", path(., child::b))
element a {1, 2} => elem("a", seq(1, 2))
element {'a'} {1} => elem("a", 1)
element {a} {b} => elem(path(., child::a), path(., child::b))
element {1, 2} {} => elem(seq(1, 2), seq())
attribute a {1} => attr("a", 1)
attribute a {} => attr("a", seq())
attribute a {b} => attr("a", path(., child::b))
attribute {a} {b} => attr(path(., child::a), path(., child::b))
attribute {1} {} => attr(1, seq())
text {1} => text(1)
text {a} => text(path(., child::a))
text {} => text(seq())
comment {a} => comment(path(., child::a))
comment {} => comment(seq())
document {a} => document(path(., child::a))
document {} => document(seq())
document {element a {attribute b {text {1}}, comment {2}}} => document(elem("a", seq(attr("b", text(1)), comment(2))))
<a/> => elem("a")
<a></a> => elem("a")
<a> </a> => elem("a")
<a b=""/> => elem("a", attr("b"))
<a b="1"/> => elem("a", attr("b", "1"))
<a b="1" c='2' d=""/> => elem("a", attr("b", "1"), attr("c", "2"), attr("d"))
<a b="{1}"/> => elem("a", attr("b", 1))
<a b="{1}{2, 3}"/> => elem("a", attr("b", 1, seq(2, 3)))
<a b="x{1}y{2}z"/> => elem("a", attr("b", "x", 1, "y", 2, "z"))
<a b="{1}y{c}"/> => elem("a", attr("b", 1, "y", path(., child::c)))
<a b="{'t'}"/> => elem("a", attr("b", "t"))
<a b="&lt;&#65;{{"/> => elem("a", attr("b", "<A{"))
<a b=" "/> => elem("a", attr("b", " "))
<a b="{()}"/> => elem("a", attr("b", seq()))
<a b="{<c d='{1}e'>f</c>}"/> => elem("a", attr("b", elem("c", attr("d", 1, "e"), text("f"))))
<a>t</a> => elem("a", text("t"))
<a>{'t'}</a> => elem("a", "t")
<a>{1}</a> => elem("a", 1)
<a>{1}{2}</a> => elem("a", 1, 2)
<a> {1} {2, 3} </a> => elem("a", 1, seq(2, 3))
<a>t{1}u{b}v</a> => elem("a", text("t"), 1, text("u"), path(., child::b), text("v"))
<a>&#32;</a> => elem("a", text(" "))
<a>{{&lt;</a> => elem("a", text("{<"))
<a><b/></a> => elem("a", elem("b"))
<a>{<b/>}</a> => elem("a", elem("b"))
<a>t<b c="1">u</b>v<d/></a> => elem("a", text("t"), elem("b", attr("c", "1"), text("u")), text("v"), elem("d"))
<a b="1">t{2}</a> => elem("a", attr("b", "1"), text("t"), 2)
<a b="{c}"><d e="{f}">{g}</d></a> => elem("a", attr("b", path(., child::c)), elem("d", attr("e", path(., child::f)), path(., child::g)))
<a>{attribute b {1}, text {'t'}, 'u'}</a> => elem("a", seq(attr("b", 1), text("t"), "u"))
<a>{for $x in b return <c>{$x}</c>}</a> => elem("a", for $x(path(., child::b), elem("c", $x)))
`

// steps are texts that are steps, and the notation of what they are behind a slash.
const steps = `
a => child::a
* => child::*
@a => attribute::a
@* => attribute::*
.. => parent::node()
child::a => child::a
descendant::a => descendant::a
attribute::a => attribute::a
self::a => self::a
descendant-or-self::a => descendant-or-self::a
following-sibling::a => following-sibling::a
parent::a => parent::a
ancestor::a => ancestor::a
preceding-sibling::a => preceding-sibling::a
ancestor-or-self::a => ancestor-or-self::a
node() => child::node()
text() => child::text()
comment() => child::comment()
element() => child::element()
element(*) => child::element()
element(a) => child::element(a)
attribute() => attribute::attribute()
attribute(a) => attribute::attribute(a)
document-node() => child::document-node()
self::node() => self::node()
@text() => attribute::text()
ancestor::* => ancestor::*
a[1] => filter(child::a, 1)
@a[1] => filter(attribute::a, 1)
..[1] => filter(parent::node(), 1)
self::*[.] => filter(self::*, .)
a[1][2] => filter(filter(child::a, 1), 2)
a[1][2]['c'] => filter(filter(filter(child::a, 1), 2), "c")
a[b] => filter(child::a, path(., child::b))
a[b][c] => filter(filter(child::a, path(., child::b)), path(., child::c))
a[b[c]] => filter(child::a, path(., filter(child::b, path(., child::c))))
a[b[c[d]][e]] => filter(child::a, path(., filter(filter(child::b, path(., filter(child::c, path(., child::d)))), path(., child::e))))
a[b/c] => filter(child::a, path(path(., child::b), child::c))
a[b/c[d]] => filter(child::a, path(path(., child::b), filter(child::c, path(., child::d))))
a[/b] => filter(child::a, path(root, child::b))
a[1, b] => filter(child::a, seq(1, path(., child::b)))
a[(b, c)[1]] => filter(child::a, filter(seq(path(., child::b), path(., child::c)), 1))
a[last()] => filter(child::a, call last())
a[position() = 1] => filter(child::a, geq(call position(), 1))
a[string() eq 'b'] => filter(child::a, veq(call string(.), "b"))
a[$v] => filter(child::a, $v)
a[for $x in b return c] => filter(child::a, for $x(path(., child::b), path(., child::c)))
a[<b>{c}</b>] => filter(child::a, elem("b", path(., child::c)))
`

// whereas are texts with # for another expression, and the notation of their cores: # for that's core, ~ for what that is behind a slash.
const whereas = `
(#), 1 => seq(#, 1)
1, (#) => seq(1, #)
1, (#), 2 => seq(1, #, 2)
((#), 1), 2 => seq(seq(#, 1), 2)
(#) to 1 => range(#, 1)
1 to (#) => range(1, #)
-(#) => neg(#)
if (#) then 1 else 2 => if(#, 1, 2)
if (1) then (#) else 2 => if(1, #, 2)
if (1) then 2 else (#) => if(1, 2, #)
some $i in (#) satisfies 1 => some $i(#, 1)
some $i in 1 satisfies (#) => some $i(1, #)
some $i in 1, $j in (#) satisfies 2 => some $i(1, some $j(#, 2))
every $i in (#) satisfies 1 => every $i(#, 1)
every $i in 1 satisfies (#) => every $i(1, #)
every $i in 1, $j in 2 satisfies (#) => every $i(1, every $j(2, #))
typeswitch (#) case xs:integer return 1 default return 2 => switch(#, case xs:integer(1), case item()*(2))
typeswitch (1) case $i as xs:integer return (#) case node() return 2 default return 3 => switch(1, case $i as xs:integer(#), case node()(2), case item()*(3))
typeswitch (1) case xs:integer return 2 case node() return (#) default return 3 => switch(1, case xs:integer(2), case node()(#), case item()*(3))
typeswitch (1) case xs:integer return 2 default $i return (#) => switch(1, case xs:integer(2), case $i as item()*(#))
(#) instance of node() => instance node()(#)
(#) treat as xs:string+ => treat xs:string+(#)
(#) cast as xs:integer? => cast xs:integer?(#)
(#) castable as xs:integer => castable xs:integer(#)
(#) union a => union(#, path(., child::a))
a union (#) => union(path(., child::a), #)
(#) intersect a => intersect(#, path(., child::a))
a intersect (#) => intersect(path(., child::a), #)
(#) except a => except(#, path(., child::a))
a except (#) => except(path(., child::a), #)
(#)/a => path(#, child::a)
(#)/. => path(#, .)
(#)//a => path(path(#, descendant-or-self::node()), child::a)
(#)/a/b => path(path(#, child::a), child::b)
(#)/(a/b) => path(#, path(path(., child::a), child::b))
(#)/a[1] => path(#, filter(child::a, 1))
a/(#) => path(path(., child::a), ~)
./(#) => path(., ~)
/(#) => path(root, ~)
//(#) => path(path(root, descendant-or-self::node()), ~)
a//(#) => path(path(path(., child::a), descendant-or-self::node()), ~)
a/(#)/b => path(path(path(., child::a), ~), child::b)
a/(b/(#)) => path(path(., child::a), path(path(., child::b), ~))
a/((#)/b) => path(path(., child::a), path(#, child::b))
a/(#)[1] => path(path(., child::a), filter(~, 1))
a/(#)[1][b] => path(path(., child::a), filter(filter(~, 1), path(., child::b)))
(a/(#))[1] => filter(path(path(., child::a), ~), 1)
a/(b, (#)) => path(path(., child::a), seq(path(., child::b), #))
a/(b, (#))[1] => path(path(., child::a), filter(seq(path(., child::b), #), 1))
a/b[#] => path(path(., child::a), filter(child::b, #))
a/b[#][1] => path(path(., child::a), filter(filter(child::b, #), 1))
a/1[#] => path(path(., child::a), filter(1, #))
1[#] => filter(1, #)
.[1][#] => filter(filter(., 1), #)
.[#][1] => filter(filter(., #), 1)
(a/b)[#] => filter(path(path(., child::a), child::b), #)
((#), 1)[2] => filter(seq(#, 1), 2)
count((#)) => call count(#)
string((#)) => call string(#)
name((#)) => call name(#)
concat(1, (#), 2) => call concat(1, #, 2)
error((#)) => call error(#)
xs:integer((#)) => cast xs:integer?(#)
xs:string((#)) => cast xs:string?(#)
local:o((#)) => call local:o(convert xs:integer(#))
local:w((#), 1) => call local:w(#, convert xs:string*(1))
local:w(1, (#)) => call local:w(1, convert xs:string*(#))
for $i in (#) return 1 => for $i(#, 1)
for $i at $j in (#) return 1 => for $i at $j(#, 1)
for $i in 1 return (#) => for $i(1, #)
for $i in 1, $j in (#) return 2 => for $i(1, for $j(#, 2))
for $i in 1 where (#) return 2 => for $i(1, if(#, 2, seq()))
for $i in 1 where 2 return (#) => for $i(1, if(2, #, seq()))
for $i in (#) where 1 return 2 => for $i(#, if(1, 2, seq()))
let $i := (#) return 1 => let $i(#, 1)
let $i := 1 return (#) => let $i(1, #)
let $i := 1 let $j := (#) for $k in 2 return 3 => let $i(1, let $j(#, for $k(2, 3)))
let $i := 1 where (#) return 2 => let $i(1, if(#, 2, seq()))
for $i in (#) order by 1 return 2 => order $i(#, true, 1, 2)
for $i in 1 order by (#) return 2 => order $i(1, true, #, 2)
for $i in 1 order by 2 descending return (#) => order $i down(1, true, 2, #)
for $i in (#) where 1 order by 2 return 3 => order $i(#, 1, 2, 3)
for $i at $j in 1 where (#) order by 2 return 3 => order $i at $j(1, #, 2, 3)
for $i in 1 where 2 order by (#) return 3 => order $i(1, 2, #, 3)
for $i in 1 where 2 order by 3 return (#) => order $i(1, 2, 3, #)
element a {#} => elem("a", #)
element {#} {1} => elem(#, 1)
element {1} {#} => elem(1, #)
attribute a {#} => attr("a", #)
attribute {#} {} => attr(#, seq())
attribute {1} {#} => attr(1, #)
text {#} => text(#)
comment {#} => comment(#)
document {#} => document(#)
<e a="{#}"/> => elem("e", attr("a", #))
<e a="t{#}u{1}"/> => elem("e", attr("a", "t", #, "u", 1))
<e a="1" b='{2}{#}'>t</e> => elem("e", attr("a", "1"), attr("b", 2, #), text("t"))
<e>{#}</e> => elem("e", #)
<e>t{1}{#}u</e> => elem("e", text("t"), 1, #, text("u"))
<e a="1"><f>{#}</f></e> => elem("e", attr("a", "1"), elem("f", #))
`

// ofSteps are as whereas, and steps at all events.
const ofSteps = `
a[#] => filter(child::a, #)
@a[1][#] => filter(filter(attribute::a, 1), #)
a[#][1] => filter(filter(child::a, #), 1)
`

// ofEither are as whereas, and steps where what they are filled with is one.
const ofEither = `
(#) => ~
+(#) => ~
(#)[1] => filter(~, 1)
(#)[1][a] => filter(filter(~, 1), path(., child::a))
`

// row is a text, and the notation of what it is behind a slash: elsewhere it is that, too, unless it is a step.
type row struct {
	text, core string
	step       bool
}

// alone is the notation of a row's core.
func (r row) alone() string {
	if r.step {
		return "path(., " + r.core + ")"
	}
	return r.core
}

// lines are the rows of a table.
func lines(table string, step bool) []row {
	var all []row
	for line := range strings.Lines(strings.TrimSpace(table)) {
		text, core, _ := strings.Cut(strings.TrimSpace(line), " => ")
		all = append(all, row{text, core, step})
	}
	return all
}

// allRows are the rows of both tables.
func allRows() []row { return append(lines(wholes, false), lines(steps, true)...) }

// place is a row with room for another one; either says that it is a step, if that is one.
type place struct {
	row
	either bool
}

// filled is a place's row, with a row in it.
func (p place) filled(r row) row {
	return row{
		text: strings.ReplaceAll(p.text, "#", r.text),
		core: strings.NewReplacer("#", r.alone(), "~", r.core).Replace(p.core),
		step: p.step || p.either && r.step,
	}
}

// inside is a place with another one in it.
func (p place) inside(o place) place {
	f := place{row{strings.ReplaceAll(o.text, "#", p.text), "", o.step || o.either && p.step}, o.either && p.either}
	alone := p.core
	if p.step {
		alone = "path(., " + p.core + ")"
	}
	f.core = strings.NewReplacer("#", alone, "~", p.core).Replace(o.core)
	return f
}

// binary are the words between two operands, and the notation of what they make.
var binary = [][2]string{
	{"+", "add"}, {"-", "sub"}, {"*", "mul"}, {"div", "div"}, {"idiv", "idiv"}, {"mod", "mod"},
	{"eq", "veq"}, {"ne", "vne"}, {"lt", "vlt"}, {"le", "vle"}, {"gt", "vgt"}, {"ge", "vge"},
	{"=", "geq"}, {"!=", "gne"}, {"<", "glt"}, {"<=", "gle"}, {">", "ggt"}, {">=", "gge"},
	{"is", "is"}, {"<<", "before"}, {">>", "after"}, {"and", "and"}, {"or", "or"},
}

// somePlaces are the places of the tables, without all operators.
func somePlaces() []place {
	var all []place
	for _, r := range lines(whereas, false) {
		all = append(all, place{r, false})
	}
	for _, r := range lines(ofSteps, true) {
		all = append(all, place{r, false})
	}
	for _, r := range lines(ofEither, false) {
		all = append(all, place{r, true})
	}
	return all
}

// allPlaces are all of them.
func allPlaces() []place {
	all := somePlaces()
	for _, b := range binary {
		all = append(all,
			place{row{"(#) " + b[0] + " 1", b[1] + "(#, 1)", false}, false},
			place{row{"1 " + b[0] + " (#)", b[1] + "(1, #)", false}, false})
	}
	return all
}

func (r row) hold(t *testing.T) {
	t.Helper()
	hold(t, atFront+r.text, r.alone())
}

func TestP131Examples(t *testing.T) {
	hold(t, "a[1]", "path(., filter(child::a, 1))")
	hold(t, "for $x in 1 where 2 return 3", "for $x(1, if(2, 3, seq()))")
	hold(t, `<e a="1">t{2}</e>`, `elem("e", attr("a", "1"), text("t"), 2)`)
	hold(t, "xs:integer(.)", "cast xs:integer?(.)")
}

func TestP131Rows(t *testing.T) {
	for _, r := range allRows() {
		r.hold(t)
	}
	for _, b := range binary {
		row{"1 " + b[0] + " 2", b[1] + "(1, 2)", false}.hold(t)
		row{"a " + b[0] + " b", b[1] + "(path(., child::a), path(., child::b))", false}.hold(t)
	}
}

// Each row in each place.
func TestP131Places(t *testing.T) {
	t.Parallel()
	for _, p := range allPlaces() {
		for _, r := range allRows() {
			p.filled(r).hold(t)
		}
	}
}

// Each place in each place in each place of some.
func TestP131PlacesInPlaces(t *testing.T) {
	t.Parallel()
	some, outer := somePlaces(), allPlaces()
	least := []row{{"a", "child::a", true}, {"1", "1", false}}
	for i, o := range outer {
		for j, p := range some {
			q := some[(i*7+j*3)%len(some)]
			r := least[(i+j)%2]
			p.filled(r).hold(t)
			o.filled(p.filled(r)).hold(t)
			o.filled(p.filled(q.filled(r))).hold(t)
		}
	}
}

// As deep as expressions may lie in one another in a text.
func TestP131DeepPlaces(t *testing.T) {
	t.Parallel()
	for _, p := range allPlaces() {
		for _, r := range []row{{"a", "child::a", true}, {"1", "1", false}, {"a/b", "path(path(., child::a), child::b)", false}} {
			for {
				next := p.filled(r)
				if _, e := parse.Parse(atFront + next.text); e != api.OK {
					break
				}
				r = next
			}
			r.hold(t)
		}
	}
}

// calls are the functions that are there, each with how many arguments it takes, but for those that are types.
var calls = []struct {
	names       string
	least, most int
}{
	{"count empty exists not boolean data codepoints-to-string string-to-codepoints avg max min abs floor ceiling round reverse distinct-values exactly-one zero-or-one one-or-more doc", 1, 1},
	{"true false position last", 0, 0},
	{"string string-length normalize-space name root error", 0, 1},
	{"contains starts-with ends-with substring-before substring-after string-join compare index-of remove deep-equal", 2, 2},
	{"substring subsequence", 2, 3},
	{"sum", 1, 2},
	{"translate insert-before", 3, 3},
	{"concat", 2, 8},
}

// Each function that is there, called with each count of arguments: with none, some look at the item.
func TestP131Calls(t *testing.T) {
	looks := map[string]bool{"string": true, "string-length": true, "normalize-space": true, "name": true, "root": true}
	for _, c := range calls {
		for name := range strings.FieldsSeq(c.names) {
			for n := range 10 {
				text, core := args(n)
				if n == 0 && looks[name] {
					core = "."
				}
				text = name + "(" + text + ")"
				if n < c.least || n > c.most {
					holdErr(t, api.ErrFunc, text, "fn:"+text)
					continue
				}
				want := "call " + name + "(" + core + ")"
				hold(t, text, want)
				hold(t, "fn:"+text, want)
				hold(t, "a["+text+"]", "path(., filter(child::a, "+want+"))")
			}
		}
	}
}

// args are as many arguments, and the notation of their cores.
func args(n int) (text, core string) {
	var texts, cores []string
	for i := range n {
		texts, cores = append(texts, fmt.Sprint("a", i)), append(cores, fmt.Sprint("path(., child::a", i, ")"))
	}
	return strings.Join(texts, ", "), strings.Join(cores, ", ")
}

// Each type's function makes a Cast.
func TestP131Casts(t *testing.T) {
	for name := range strings.FieldsSeq("xs:integer xs:decimal xs:string xs:boolean xs:untypedAtomic") {
		hold(t, name+"(1)", "cast "+name+"?(1)")
		hold(t, name+"(())", "cast "+name+"?(seq())")
		hold(t, name+"((1, a))", "cast "+name+"?(seq(1, path(., child::a)))")
		hold(t, "a/"+name+"(.)/b", "path(path(path(., child::a), cast "+name+"?(.)), child::b)")
		hold(t, name+"(a) cast as "+name, "cast "+name+"(cast "+name+"?(path(., child::a)))")
		holdErr(t, api.ErrFunc, name+"()", name+"(1, 2)", name+"(1, 2, 3)", "local:"+name[3:]+"(1)")
	}
	holdErr(t, api.ErrFunc, "xs:anyAtomicType(1)", "xs:int(1)", "xs:double(1)", "xs:node(1)", "xs:item(1)", "xs:count(1)")
}

// clauses tells, of a row of f, a, l and w, the text of such clauses (for, for with at, let, where) and the notation of their core.
func clauses(kinds string) (text, front, back string) {
	for i, kind := range kinds {
		n := string(rune('1' + i))
		switch kind {
		case 'f':
			text, front, back = text+"for $x"+n+" in "+n+" ", front+"for $x"+n+"("+n+", ", ")"+back
		case 'a':
			text, front, back = text+"for $x"+n+" at $p"+n+" in "+n+" ", front+"for $x"+n+" at $p"+n+"("+n+", ", ")"+back
		case 'l':
			text, front, back = text+"let $x"+n+" := "+n+" ", front+"let $x"+n+"("+n+", ", ")"+back
		case 'w':
			text, front, back = text+"where "+n+" ", front+"if("+n+", ", ", seq())"+back
		}
	}
	return text, front, back
}

// rowsOf are all rows of as many letters.
func rowsOf(letters string, count int) []string {
	all := []string{""}
	for range count {
		var more []string
		for _, s := range all {
			for _, l := range letters {
				more = append(more, s+string(l))
			}
		}
		all = more
	}
	return all
}

// All rows of clauses that a text may have.
func TestP131Flwors(t *testing.T) {
	for count := range 5 {
		for _, kinds := range rowsOf("fal", count+1) {
			for _, kinds := range []string{kinds, kinds + "w"} {
				text, front, back := clauses(kinds)
				hold(t, text+"return 'r'", front+`"r"`+back)
				hold(t, text+"return a", front+"path(., child::a)"+back)
			}
		}
	}
}

// All rows of clauses, the where in any place and more than once, which no text has.
func TestP131FlworTrees(t *testing.T) {
	for count := range 6 {
		for _, kinds := range rowsOf("falw", count) {
			e := expr(api.Flwor)
			for i, kind := range kinds {
				name := string(rune('1' + i))
				c := expr(api.Where, number(i+1))
				if kind != 'w' {
					c = named(api.For, "x"+name, number(i+1))
				}
				switch kind {
				case 'a':
					c.At = "p" + name
				case 'l':
					c.Op = api.Let
				}
				e.Kids = append(e.Kids, c)
			}
			e.Kids = append(e.Kids, str("r"))
			_, front, back := clauses(kinds)
			core, err := brought(t, api.Module{Body: e})
			if want := front + `"r"` + back; err != api.OK || show(core.Body) != want {
				t.Fatalf("Core of the clauses %q: %s, %v, not %s", kinds, show(core.Body), err, want)
			}
		}
	}
}

// An order by, with and without all that may stand beside it.
func TestP131Orders(t *testing.T) {
	for i := range 32 {
		has := func(bit int, s string) string {
			if i>>bit&1 == 1 {
				return s
			}
			return ""
		}
		at, where, word := has(0, " at $p"), has(1, "where b "), has(2, " descending")
		kept, down := "true", has(2, " down")
		if where != "" {
			kept = "path(., child::b)"
		}
		if word == "" {
			word = has(3, " ascending")
		}
		text := "for $x" + at + " in a " + where + "order by c" + word + " return d"
		want := "order $x" + at + down + "(path(., child::a), " + kept + ", path(., child::c), path(., child::d))"
		hold(t, text, want)
		if in := has(4, "in"); in != "" {
			hold(t, strings.ReplaceAll(text, " in a", " in ("+text+")"), strings.Replace(want, "path(., child::a)", want, 1))
			hold(t, strings.ReplaceAll(text, "by c", "by ("+text+")"), strings.Replace(want, "path(., child::c)", want, 1))
			hold(t, strings.ReplaceAll(text, "return d", "return "+text), strings.Replace(want, "path(., child::d)", want, 1))
		}
	}
}
