package parse_test

import (
	"math/rand"
	"strconv"
	"strings"
	"testing"

	"espalier/api"
	"espalier/lex"
	"espalier/parse"
)

var someGaps = []string{" ", "\t", "\n", "\r", "\r\n", "  ", "(::)", "(: r :)", " (: r :) ", "(:(::):)", "(: (: ' :) \" :)", "(:<a>:)", "(:{:)(:}:)", "(:\u00e9:)", "(:)(::):)"}

// spread is the tokens of a text, each as it stands, with gaps around.
func spread(s string, ts []api.Token, gap func() string) string {
	var b strings.Builder
	for _, x := range ts {
		b.WriteString(gap() + s[x.At:x.End])
	}
	return b.String() + gap()
}

func TestP113Gaps(t *testing.T) {
	g := rand.New(rand.NewSource(117))
	for _, s := range append([]string{
		"1", "()", "a", "/", "//a", "a/b//c", "$x", "'a'", "1.5", ".5", "-1", "- - 1", "a-1", "a:b(1)", "f()", "@a", "..", "child::a", "text()", "element(*)", "1 < a", "a < b", "a << b", "/ = 1", "/ < a", "1 instance of element ( a ) ?", "element a {1}", "text {}", "document {1}/a[b][c]", "1, 2", "if (1) then 2 else 3", "for $x in 1 return 2",
	}, samples...) {
		ts, e := lex.All(s)
		if e != api.OK || strings.Contains(s, "<a") {
			continue
		}
		want := taken(t, s)
		for _, gap := range someGaps {
			other := spread(s, ts, func() string { return gap })
			if got, e := parse.Parse(other); e != api.OK || !same(got, want) {
				t.Errorf("P11.3: %q: %v, %s; not %s", other, e, showModule(got), showModule(want))
			}
		}
		for range 20 {
			other := spread(s, ts, func() string { return someGaps[g.Intn(len(someGaps))] + someGaps[g.Intn(len(someGaps))] })
			if got, e := parse.Parse(other); e != api.OK || !same(got, want) {
				t.Errorf("P11.3: %q: %v, %s; not %s", other, e, showModule(got), showModule(want))
			}
		}
		// A gap in one place alone.
		for i := range ts {
			for _, gap := range someGaps {
				alike(t, s, s[:ts[i].At]+gap+s[ts[i].At:], s[:ts[i].End]+gap+s[ts[i].End:])
			}
		}
	}
}

// What can't go on so can't with gaps either.
func TestP113GapsInFaults(t *testing.T) {
	for _, s := range []string{"1 +", "a b", "f(1,)", "1 = 2 = 3", "(1", "for $x return 1", "element a b {1}", "declare variable $x := 1", "1 cast as xs:anyAtomicType", "x::a", "/ * 2", "a[]", "typeswitch (1) default return 2"} {
		ts, _ := lex.All(s)
		for _, gap := range someGaps {
			refuse(t, api.ErrSyntax, spread(s, ts, func() string { return gap }))
		}
	}
	refuse(t, api.ErrSyntax, "1 (:", "(: 1", "1 :)", "(:(: :) 1", "(: :", "(::", "1 (: :) :)", "(::) (:")
	refuse(t, api.ErrOver, "(: r :) 1"+noughts(18)+" (:")
	refuse(t, api.ErrNest, strings.Repeat(" ( (::)", 65)+" 1 (:")
}

// In a Direct gaps stand for themselves, but for spaces in tags; in its braces they are as elsewhere.
func TestP113GapsInDirects(t *testing.T) {
	want := `(direct name=a (dirattr name=b ~"1" (seq 2 3)) 4 (direct name=c) (add 5 6))`
	for _, gap := range someGaps {
		hold(t, gap+"<a b='1{"+gap+"2"+gap+","+gap+"3"+gap+"}'>{"+gap+"4"+gap+"}<c/>{5"+gap+"+"+gap+"6}</a>"+gap, want)
		if strings.Trim(gap, " \t\r\n") == "" {
			hold(t, "<a"+gap+"b"+gap+"="+gap+"'1{2,3}'"+gap+">"+gap+"{4}"+gap+"<c"+gap+"/>"+gap+"{5+6}"+gap+"</a"+gap+">", want)
			continue
		}
		refuse(t, api.ErrSyntax, "<a"+gap+"/>", "<"+gap+"a/>", "<a b"+gap+"='1'/>", "<a b="+gap+"'1'/>", "<a b='1'"+gap+"/>", "<a></a"+gap+">", "<a></"+gap+"a>")
		written := strings.NewReplacer("{", "{{", "}", "}}", "<", "&lt;").Replace(gap)
		hold(t, "<a>1"+written+"</a>", "(direct name=a ~"+strconv.Quote("1"+gap)+")")
		hold(t, "<a b='"+strings.ReplaceAll(written, "'", "''")+"'/>", "(direct name=a (dirattr name=b ~"+strconv.Quote(gap)+"))")
	}
}
