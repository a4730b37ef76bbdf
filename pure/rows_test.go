package pure_test

import (
	"fmt"
	"testing"

	"espalier/api"
	"espalier/norm"
	"espalier/pure"
)

// none is where no Kid stands.
const none = -1

// rows are the expressions that a core may have: how many Kids, what is told of each when nothing is to be told of its Kids but that they are safe, and which Kid's looking at the focus is its own affair.
var rows = []struct {
	op     api.Op
	kids   []int
	itself told
	own    int
}{
	{api.Lit, []int{0}, told{safe: true}, none},
	{api.Var, []int{0}, told{safe: true}, none},
	{api.Dot, []int{0}, told{focus: true}, none},
	{api.Root, []int{0}, told{focus: true}, none},
	{api.Step, []int{0}, told{focus: true}, none},
	{api.Seq, []int{0, 1, 2, 4}, told{safe: true}, none},
	{api.Instance, []int{1}, told{safe: true}, none},
	{api.Castable, []int{1}, told{safe: true}, none},
	{api.For, []int{2}, told{safe: true}, none},
	{api.Let, []int{2}, told{safe: true}, none},
	{api.Range, []int{2}, told{}, none},
	{api.Add, []int{2}, told{}, none},
	{api.Sub, []int{2}, told{}, none},
	{api.Mul, []int{2}, told{}, none},
	{api.Div, []int{2}, told{}, none},
	{api.IDiv, []int{2}, told{}, none},
	{api.Mod, []int{2}, told{}, none},
	{api.Neg, []int{1}, told{}, none},
	{api.VEq, []int{2}, told{}, none},
	{api.VNe, []int{2}, told{}, none},
	{api.VLt, []int{2}, told{}, none},
	{api.VLe, []int{2}, told{}, none},
	{api.VGt, []int{2}, told{}, none},
	{api.VGe, []int{2}, told{}, none},
	{api.GEq, []int{2}, told{}, none},
	{api.GNe, []int{2}, told{}, none},
	{api.GLt, []int{2}, told{}, none},
	{api.GLe, []int{2}, told{}, none},
	{api.GGt, []int{2}, told{}, none},
	{api.GGe, []int{2}, told{}, none},
	{api.Is, []int{2}, told{}, none},
	{api.Before, []int{2}, told{}, none},
	{api.After, []int{2}, told{}, none},
	{api.And, []int{2}, told{}, none},
	{api.Or, []int{2}, told{}, none},
	{api.If, []int{3}, told{}, none},
	{api.Order, []int{4}, told{}, none},
	{api.Some, []int{2}, told{}, none},
	{api.Every, []int{2}, told{}, none},
	{api.Path, []int{2}, told{}, 1},
	{api.Filter, []int{2}, told{}, 1},
	{api.Union, []int{2}, told{}, none},
	{api.Inter, []int{2}, told{}, none},
	{api.Except, []int{2}, told{}, none},
	{api.Cast, []int{1}, told{}, none},
	{api.Treat, []int{1}, told{}, none},
	{api.Convert, []int{1}, told{}, none},
	{api.Switch, []int{2, 3, 4}, told{}, none},
	{api.Case, []int{1}, told{}, none},
	{api.MakeElem, []int{1, 2, 5}, told{fresh: true}, none},
	{api.MakeAttr, []int{1, 2, 5}, told{fresh: true}, none},
	{api.MakeText, []int{1}, told{fresh: true}, none},
	{api.MakeCom, []int{1}, told{fresh: true}, none},
	{api.MakeDoc, []int{1}, told{fresh: true}, none},
}

// insides are what may lie in an expression, and what is told of each alone.
var insides = []struct {
	e     api.Expr
	alone told
}{
	{number(1), plain},
	{str("a"), plain},
	{variable("x"), plain},
	{expr(api.Seq), plain},
	{expr(api.Seq, number(1), variable("x")), plain},
	{named(api.Call, "true"), plain},
	{named(api.Call, "count", expr(api.Seq)), plain},
	{named(api.Let, "x", number(1), variable("x")), plain},
	{expr(api.Add, number(1), number(2)), told{}},
	{named(api.Call, "not", number(1)), told{}},
	{named(api.Call, "doc", str("d")), told{}},
	{expr(api.Seq, number(1), expr(api.Neg, number(1))), told{}},
	{expr(api.Path, variable("x"), step()), told{}},
	{expr(api.Filter, variable("x"), expr(api.Dot)), told{}},
	{expr(api.Dot), told{focus: true}},
	{expr(api.Root), told{focus: true}},
	{path(), told{focus: true}},
	{named(api.Call, "last"), told{focus: true}},
	{expr(api.Seq, number(1), named(api.Call, "position")), told{focus: true}},
	{expr(api.MakeText, number(1)), told{fresh: true}},
	{named(api.Call, "local:f"), told{fresh: true}},
	{expr(api.Seq, expr(api.MakeCom, number(1)), number(1)), told{fresh: true}},
	{expr(api.Path, variable("x"), expr(api.MakeElem, expr(api.Dot))), told{fresh: true}},
	{expr(api.MakeDoc, expr(api.Dot)), told{fresh: true, focus: true}},
	{named(api.Call, "local:f", named(api.Call, "last")), told{fresh: true, focus: true}},
}

// around is what is told of an expression by what is told of it alone, and of a Kid.
func around(itself, kid told, own bool) told {
	return told{
		safe:  itself.safe && kid.safe,
		fresh: itself.fresh || kid.fresh,
		focus: itself.focus || kid.focus && !own,
	}
}

func TestP161Insides(t *testing.T) {
	for _, in := range insides {
		holdTold(t, show(in.e), in.e, in.alone)
	}
}

// Each expression that a core may have, with each of the insides in each of its places, and in two places.
func TestP161Rows(t *testing.T) {
	t.Parallel()
	for _, row := range rows {
		for _, count := range row.kids {
			e := named(row.op, "x")
			for range count {
				e.Kids = append(e.Kids, number(1))
			}
			holdTold(t, show(e), e, row.itself)
			for i := range e.Kids {
				for _, in := range insides {
					one := apart(e)
					one.Kids[i] = in.e
					want := around(row.itself, in.alone, i == row.own)
					holdTold(t, show(one), one, want)
					for j := range i {
						for _, other := range insides {
							one.Kids[j] = other.e
							if got := tell(t, one); got != around(want, other.alone, j == row.own) {
								t.Errorf("%s: %+v", show(one), got)
							}
						}
						one.Kids[j] = number(1)
					}
				}
			}
		}
	}
}

// The rows are all that a core may have but Calls.
func TestP161RowsAreAll(t *testing.T) {
	listed := map[api.Op]bool{api.Call: true}
	for _, row := range rows {
		listed[row.op] = true
	}
	for op := api.Op(-1); op <= api.Ops+1; op++ {
		isCore := false
		for count := range 5 {
			e := expr(op)
			for range count {
				e.Kids = append(e.Kids, number(1))
			}
			isCore = isCore || norm.IsCore(e) || norm.IsCore(expr(api.Path, number(1), e))
		}
		if isCore != listed[op] {
			t.Errorf("op %d: core %v, listed %v", op, isCore, listed[op])
		}
	}
}

func TestP161NoExpression(t *testing.T) {
	if !pure.Safe() || pure.Fresh() || pure.Focus() {
		t.Errorf("of nothing: %v, %v, %v", pure.Safe(), pure.Fresh(), pure.Focus())
	}
	if pure.Uses("x") != 0 || pure.Uses("") != 0 || pure.Size() != 0 {
		t.Errorf("of nothing: %d, %d, %d", pure.Uses("x"), pure.Uses(""), pure.Size())
	}
}

// Several: each must be safe, one need be fresh or look at the focus, wherever it stands.
func TestP161Several(t *testing.T) {
	for _, in := range insides {
		for count := 1; count < 6; count++ {
			for at := range count {
				es := make([]api.Expr, count)
				for i := range es {
					es[i] = number(1)
				}
				es[at] = in.e
				if got := tell(t, es...); got != in.alone {
					t.Errorf("%s, in place %d of %d: %+v", show(in.e), at, count, got)
				}
				for _, other := range insides {
					es[count-1-at] = other.e
					want := around(in.alone, other.alone, false)
					if count-1-at == at {
						want = other.alone
					}
					if got := tell(t, es...); got != want {
						t.Errorf("%s and %s, in place %d of %d: %+v", show(in.e), show(other.e), at, count, got)
					}
				}
			}
		}
	}
}

// What an expression has beside its Kids changes nothing of what is told.
func TestP161Fields(t *testing.T) {
	for _, row := range rows {
		e := expr(row.op)
		for range row.kids[0] {
			e.Kids = append(e.Kids, variable("x"))
		}
		for _, name := range []string{"", "x", "position", "last", "local:f", "count"} {
			for _, lit := range literals {
				more := apart(e)
				more.Name, more.At, more.Val, more.Down = name, name, lit.Val, name == "x"
				more.Type = api.SeqType{Item: api.ItemKind(len(name)), Name: name, Occ: api.Occ(len(name) % api.Occs)}
				more.Axis, more.Test = api.Axis(len(name)), api.Test{Kind: api.TestKind(len(name) % api.Tests), Name: name}
				holdTold(t, fmt.Sprint(show(more), " with fields"), more, row.itself)
				if got := sizeOf(t, more); got != 1+row.kids[0] {
					t.Errorf("Size of %s with fields: %d", show(more), got)
				}
			}
		}
	}
}

// The chapter's examples, and queries of all kinds.
func TestP161Texts(t *testing.T) {
	for s, want := range map[string]told{
		"(1, $x)":   {safe: true},
		"1 + 2":     {},
		"local:f()": {fresh: true},
		"a/b":       {focus: true},
		"$x/b":      {},

		"()":                                   {safe: true},
		"'a'":                                  {safe: true},
		"1.5":                                  {safe: true},
		"$x":                                   {safe: true},
		"true(), false()":                      {safe: true},
		"count((1, 2)), empty($x), exists($x)": {safe: true},
		"reverse(data(($x, 1)))":               {safe: true},
		"$x instance of node()":                {safe: true},
		"'a' castable as xs:integer":           {safe: true},
		"let $v := 1 return $v":                {safe: true},
		"for $v in (1, 2) return ($v, $x)":     {safe: true},
		"for $v at $u in $x return count($u)":  {safe: true},
		"for $v in 1, $u in $v let $f := $u return ($f, $v)": {safe: true},
		"for $v in 1 where $x return 2":                      {},
		"for $v in 1 order by $v return 2":                   {},
		"let $v := 1 div 0 return 2":                         {},
		"let $v := 1 return -$v":                             {},
		"xs:integer('1')":                                    {},
		"1 cast as xs:string":                                {},
		"$x treat as node()":                                 {},
		"if (true()) then 1 else 2":                          {},
		"some $v in $x satisfies true()":                     {},
		"every $v in $x satisfies true()":                    {},
		"true() and true()":                                  {},
		"true() or true()":                                   {},
		"not(true())":                                        {},
		"string(1)":                                          {},
		"boolean($x)":                                        {},
		"concat('a', 'b')":                                   {},
		"error()":                                            {},
		"doc('d')":                                           {},
		"1 to 2":                                             {},
		"$x | $y":                                            {},
		"$x is $y":                                           {},
		"1 = 1":                                              {},
		"1 eq 1":                                             {},
		"$x[1]":                                              {},
		"$x[.]":                                              {},
		"$x[last()]":                                         {},
		"$x/.":                                               {},
		"$x/position()":                                      {},
		"$x//b[@c]/..":                                       {},
		"doc('d')//a[position() = last()]/b":                 {},
		"typeswitch ($x) case node() return 1 default return 2": {},

		".":                               {focus: true},
		"/":                               {focus: true},
		"/a":                              {focus: true},
		"//a":                             {focus: true},
		"@a":                              {focus: true},
		"..":                              {focus: true},
		"a[1]":                            {focus: true},
		"text()":                          {focus: true},
		"position()":                      {focus: true},
		"last()":                          {focus: true},
		"position() = 1":                  {focus: true},
		"string()":                        {focus: true},
		"name()":                          {focus: true},
		"root()":                          {focus: true},
		"normalize-space()":               {focus: true},
		"string-length()":                 {focus: true},
		"count(a)":                        {focus: true},
		"$x, .":                           {focus: true},
		"let $v := . return 1":            {focus: true},
		"for $v in 1 return .":            {focus: true},
		"for $v in 1 where . return 1":    {focus: true},
		"for $v in 1 order by . return 1": {focus: true},
		"some $v in . satisfies 1":        {focus: true},
		"every $v in 1 satisfies .":       {focus: true},
		"typeswitch (.) case node() return 1 default return 2": {focus: true},
		"typeswitch (1) case node() return . default return 2": {focus: true},
		"typeswitch (1) case node() return 1 default return .": {focus: true},
		"(.)[1]":               {focus: true},
		"(1, last())[2]":       {focus: true},
		"./$x":                 {focus: true},
		"(/)/$x":               {focus: true},
		"a[$x]/$x":             {focus: true},
		"$x | a":               {focus: true},
		". instance of node()": {focus: true},

		"<a/>":                         {fresh: true},
		"<a b='c'>d</a>":               {fresh: true},
		"element a {1}":                {fresh: true},
		"element {'a'} {1}":            {fresh: true},
		"attribute a {1}":              {fresh: true},
		"text {1}":                     {fresh: true},
		"comment {1}":                  {fresh: true},
		"document {1}":                 {fresh: true},
		"1, <a/>":                      {fresh: true},
		"count(<a/>)":                  {fresh: true},
		"local:g(1)":                   {fresh: true},
		"local:count(1)":               {fresh: true},
		"count(local:g(1))":            {fresh: true},
		"let $v := <a/> return 1":      {fresh: true},
		"let $v := 1 return <a/>":      {fresh: true},
		"for $v in local:f() return 1": {fresh: true},
		"if (1) then 2 else <a/>":      {fresh: true},
		"$x/<a/>":                      {fresh: true},
		"$x/<a>{.}</a>":                {fresh: true},
		"$x[local:g(.)]":               {fresh: true},
		"typeswitch ($x) case node() return <a/> default return 2": {fresh: true},
		"for $v in 1 order by <a/> return 1":                       {fresh: true},

		"<a>{.}</a>":                   {fresh: true, focus: true},
		"<a b='{c}'/>":                 {fresh: true, focus: true},
		"<a><b>{last()}</b></a>":       {fresh: true, focus: true},
		"local:g(.)":                   {fresh: true, focus: true},
		"a/<b/>":                       {fresh: true, focus: true},
		"<a/>, .":                      {fresh: true, focus: true},
		"element {.} {1}":              {fresh: true, focus: true},
		"text {position()}":            {fresh: true, focus: true},
		"a[<b/>]":                      {fresh: true, focus: true},
		"let $v := . return local:f()": {fresh: true, focus: true},
	} {
		holdTold(t, s, coreOf(t, s), want)
	}
}
