package opt_test

import (
	"math/big"
	"regexp"
	"strings"

	"espalier/api"
)

// top is the N of the greatest right number.
const top = 999999999999999999

// reckoned are the Ops of reckonings, compared those of comparisons of values.
var (
	reckoned = []api.Op{api.Add, api.Sub, api.Mul, api.Div, api.IDiv, api.Mod}
	compared = []api.Op{api.VEq, api.VNe, api.VLt, api.VLe, api.VGt, api.VGe}
)

// reading is how the text of a number looks, with spaces around.
var reading = regexp.MustCompile(`^[ \t\r\n]*([+-]?)([0-9]*)(?:\.([0-9]*))?[ \t\r\n]*$`)

func tenTo(n int) *big.Int { return new(big.Int).Exp(big.NewInt(10), big.NewInt(int64(n)), nil) }

// fitted is a value as a Dec: cut to nine digits behind the point.
func fitted(v *big.Rat) (api.Atom, api.Errno) {
	n := new(big.Int).Quo(new(big.Int).Mul(v.Num(), tenTo(api.MaxScale)), v.Denom())
	scale := api.MaxScale
	for scale > 0 && new(big.Int).Rem(n, big.NewInt(10)).Sign() == 0 {
		n.Quo(n, big.NewInt(10))
		scale--
	}
	if n.CmpAbs(big.NewInt(top)) > 0 {
		return api.Atom{}, api.ErrOver
	}
	return dec(int(n.Int64()), scale), api.OK
}

// exact is the value of a number.
func exact(a api.Atom) *big.Rat {
	return new(big.Rat).SetFrac(big.NewInt(int64(a.N)), tenTo(a.Scale))
}

// asNumber is what a value is reckoned with as.
func asNumber(a api.Atom) (api.Atom, api.Errno) {
	switch a.Kind {
	case api.Int, api.Dec:
		return a, api.OK
	case api.Untyped:
		said := reading.FindStringSubmatch(a.S)
		if said == nil || said[2]+said[3] == "" {
			return api.Atom{}, api.ErrCast
		}
		n, _ := new(big.Int).SetString(said[1]+"0"+said[2]+said[3], 10)
		return fitted(new(big.Rat).SetFrac(n, tenTo(len(said[3]))))
	}
	return api.Atom{}, api.ErrType
}

// cut is the whole part of a value.
func cut(v *big.Rat) *big.Rat { return new(big.Rat).SetInt(new(big.Int).Quo(v.Num(), v.Denom())) }

// judgedReckon is what Reckon is to answer.
func judgedReckon(op api.Op, a, b api.Atom) (api.Atom, api.Errno) {
	if op < api.Add || op > api.Mod {
		return api.Atom{}, api.ErrArg
	}
	a, err := asNumber(a)
	if err != api.OK {
		return api.Atom{}, err
	}
	b, err = asNumber(b)
	if err != api.OK {
		return api.Atom{}, err
	}
	x, y, z := exact(a), exact(b), new(big.Rat)
	if op >= api.Div && y.Sign() == 0 {
		return api.Atom{}, api.ErrZero
	}
	switch op {
	case api.Add:
		z.Add(x, y)
	case api.Sub:
		z.Sub(x, y)
	case api.Mul:
		z.Mul(x, y)
	case api.Div:
		z.Quo(x, y)
	case api.IDiv:
		z = cut(z.Quo(x, y))
	case api.Mod:
		z.Sub(x, y.Mul(y, cut(z.Quo(x, y))))
	}
	got, err := fitted(z)
	if err == api.OK && (op == api.IDiv || op != api.Div && a.Kind == api.Int && b.Kind == api.Int) {
		got = whole(got.N)
	}
	return got, err
}

// judgedCompare is what comes of a comparison of values, ErrArg being none.
func judgedCompare(op api.Op, a, b api.Atom) (api.Atom, api.Errno) {
	if op < api.VEq || op > api.VGe {
		return api.Atom{}, api.ErrArg
	}
	order := 0
	switch family(a) + family(b) {
	case "nn":
		order = exact(a).Cmp(exact(b))
	case "tt":
		order = strings.Compare(a.S, b.S)
	case "bb":
		order = map[bool]int{true: 1}[a.B] - map[bool]int{true: 1}[b.B]
	default:
		return api.Atom{}, api.ErrType
	}
	return truth(map[api.Op]bool{api.VEq: order == 0, api.VNe: order != 0, api.VLt: order < 0, api.VLe: order <= 0, api.VGt: order > 0, api.VGe: order >= 0}[op]), api.OK
}

// family is n of a number, t of a text, b of a truth.
func family(a api.Atom) string {
	return map[api.AtomKind]string{api.Int: "n", api.Dec: "n", api.Str: "t", api.Untyped: "t", api.Bool: "b"}[a.Kind]
}

// judgedPair is what comes of two values, by either.
func judgedPair(op api.Op, a, b api.Atom) (api.Atom, api.Errno) {
	if got, err := judgedReckon(op, a, b); err != api.ErrArg {
		return got, err
	}
	return judgedCompare(op, a, b)
}

// judged is the value of an expression that is one of those that become a Lit: is it one, and does none of its expressions mean an error?
func judged(e api.Expr) (api.Atom, bool) {
	var vs []api.Atom
	for _, kid := range e.Kids {
		v, ok := judged(kid)
		if !ok {
			return api.Atom{}, false
		}
		vs = append(vs, v)
	}
	switch {
	case e.Op == api.Lit:
		return e.Val, e.Val.Kind >= api.Int && e.Val.Kind <= api.Bool && len(vs) == 0
	case e.Op == api.If && len(vs) == 3:
		test := e.Kids[0]
		if test.Op != api.Lit && (test.Op < api.VEq || test.Op > api.VGe) || vs[0].Kind != api.Bool {
			return api.Atom{}, false
		}
		return map[bool]api.Atom{true: vs[1], false: vs[2]}[vs[0].B], true
	case len(vs) == 2:
		v, err := judgedPair(e.Op, vs[0], vs[1])
		return v, err == api.OK
	}
	return api.Atom{}, false
}
