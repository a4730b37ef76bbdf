package opt_test

import (
	"math"
	"math/rand"
	"strings"
	"testing"

	"espalier/api"
	"espalier/opt"
)

// holdReckon holds Reckon, asked twice, to an answer.
func holdReckon(t *testing.T, op api.Op, a, b, want api.Atom, wantErr api.Errno) {
	t.Helper()
	got, err := opt.Reckon(op, a, b)
	if got != want || err != wantErr {
		t.Errorf("Reckon(%d, %+v, %+v): %+v, %v; not %+v, %v", op, a, b, got, err, want, wantErr)
	}
	if again, then := opt.Reckon(op, a, b); again != got || then != err {
		t.Errorf("Reckon(%d, %+v, %+v): two answers", op, a, b)
	}
}

func TestP171Examples(t *testing.T) {
	holdReckon(t, api.Add, whole(1), dec(25, 1), dec(35, 1), api.OK)
	holdReckon(t, api.Mul, text("a"), whole(1), api.Atom{}, api.ErrType)
	holdReckon(t, api.Div, whole(1), whole(0), api.Atom{}, api.ErrZero)
}

// rows are two values, and what comes of them by Add, Sub, Mul, Div, IDiv and Mod.
var rows = []struct {
	a, b api.Atom
	want [6]api.Atom
}{
	{whole(7), whole(2), [6]api.Atom{whole(9), whole(5), whole(14), dec(35, 1), whole(3), whole(1)}},
	{whole(-7), whole(2), [6]api.Atom{whole(-5), whole(-9), whole(-14), dec(-35, 1), whole(-3), whole(-1)}},
	{whole(7), whole(-2), [6]api.Atom{whole(5), whole(9), whole(-14), dec(-35, 1), whole(-3), whole(1)}},
	{whole(-7), whole(-2), [6]api.Atom{whole(-9), whole(-5), whole(14), dec(35, 1), whole(3), whole(-1)}},
	{whole(4), whole(2), [6]api.Atom{whole(6), whole(2), whole(8), dec(2, 0), whole(2), whole(0)}},
	{whole(1), whole(3), [6]api.Atom{whole(4), whole(-2), whole(3), dec(333333333, 9), whole(0), whole(1)}},
	{whole(0), whole(5), [6]api.Atom{whole(5), whole(-5), whole(0), dec(0, 0), whole(0), whole(0)}},
	{whole(7), dec(25, 1), [6]api.Atom{dec(95, 1), dec(45, 1), dec(175, 1), dec(28, 1), whole(2), dec(2, 0)}},
	{dec(25, 1), whole(7), [6]api.Atom{dec(95, 1), dec(-45, 1), dec(175, 1), dec(357142857, 9), whole(0), dec(25, 1)}},
	{whole(6), dec(2, 0), [6]api.Atom{dec(8, 0), dec(4, 0), dec(12, 0), dec(3, 0), whole(3), dec(0, 0)}},
	{dec(6, 0), whole(2), [6]api.Atom{dec(8, 0), dec(4, 0), dec(12, 0), dec(3, 0), whole(3), dec(0, 0)}},
	{dec(6, 0), dec(2, 0), [6]api.Atom{dec(8, 0), dec(4, 0), dec(12, 0), dec(3, 0), whole(3), dec(0, 0)}},
	{dec(75, 1), dec(-2, 0), [6]api.Atom{dec(55, 1), dec(95, 1), dec(-15, 0), dec(-375, 2), whole(-3), dec(15, 1)}},
	{dec(5, 1), dec(5, 1), [6]api.Atom{dec(1, 0), dec(0, 0), dec(25, 2), dec(1, 0), whole(1), dec(0, 0)}},
	{raw("7"), whole(2), [6]api.Atom{dec(9, 0), dec(5, 0), dec(14, 0), dec(35, 1), whole(3), dec(1, 0)}},
	{whole(7), raw(" 2\n"), [6]api.Atom{dec(9, 0), dec(5, 0), dec(14, 0), dec(35, 1), whole(3), dec(1, 0)}},
	{raw("\t7.5 "), raw("-2"), [6]api.Atom{dec(55, 1), dec(95, 1), dec(-15, 0), dec(-375, 2), whole(-3), dec(15, 1)}},
	{raw(".5"), dec(5, 1), [6]api.Atom{dec(1, 0), dec(0, 0), dec(25, 2), dec(1, 0), whole(1), dec(0, 0)}},
	{dec(25, 1), raw("+7"), [6]api.Atom{dec(95, 1), dec(-45, 1), dec(175, 1), dec(357142857, 9), whole(0), dec(25, 1)}},
	// More than nine digits behind the point are cut.
	{dec(1, 9), dec(5, 1), [6]api.Atom{dec(500000001, 9), dec(-499999999, 9), dec(0, 0), dec(2, 9), whole(0), dec(1, 9)}},
	{dec(-19, 9), dec(1, 1), [6]api.Atom{dec(99999981, 9), dec(-100000019, 9), dec(-1, 9), dec(-19, 8), whole(0), dec(-19, 9)}},
	{raw("1.0000000009"), whole(1), [6]api.Atom{dec(2, 0), dec(0, 0), dec(1, 0), dec(1, 0), whole(1), dec(0, 0)}},
}

func TestP171Rows(t *testing.T) {
	for _, row := range rows {
		for i, op := range reckoned {
			holdReckon(t, op, row.a, row.b, row.want[i], api.OK)
		}
	}
}

func TestP171Quotients(t *testing.T) {
	for _, nought := range []api.Atom{whole(0), dec(0, 0), raw("0"), raw("0.0"), raw(" -0 "), raw("0.0000000009")} {
		for _, a := range []api.Atom{whole(0), whole(1), dec(5, 1), raw("-1"), whole(top), dec(-1, 9)} {
			for _, op := range []api.Op{api.Div, api.IDiv, api.Mod} {
				holdReckon(t, op, a, nought, api.Atom{}, api.ErrZero)
			}
			// Where it isn't divided by, it is a number as any other.
			want := a
			if a.Kind == api.Untyped {
				want = dec(-1, 0)
			} else if nought.Kind != api.Int {
				want.Kind = api.Dec
			}
			holdReckon(t, api.Add, a, nought, want, api.OK)
		}
	}
	holdReckon(t, api.IDiv, whole(top), dec(1, 1), api.Atom{}, api.ErrOver)
	holdReckon(t, api.IDiv, dec(-top, 0), raw("0.000000001"), api.Atom{}, api.ErrOver)
	holdReckon(t, api.Div, whole(top), dec(1, 1), api.Atom{}, api.ErrOver)
	holdReckon(t, api.Mod, whole(top), dec(1, 9), dec(0, 0), api.OK)
	holdReckon(t, api.Mod, whole(-top), whole(10), whole(-9), api.OK)
}

// Sums, differences and products just within, and just beyond, what there is.
func TestP171Bounds(t *testing.T) {
	for _, row := range []struct {
		op   api.Op
		a, b api.Atom
		want api.Atom
	}{
		{api.Add, whole(top - 1), whole(1), whole(top)},
		{api.Add, whole(1 - top), whole(-1), whole(-top)},
		{api.Sub, whole(top - 1), whole(-1), whole(top)},
		{api.Sub, whole(1 - top), whole(1), whole(-top)},
		{api.Mul, whole(999999999), whole(1000000001), whole(top)},
		{api.Mul, whole(-999999999), whole(1000000001), whole(-top)},
		{api.Add, dec(top-1, 9), dec(1, 9), dec(top, 9)},
		{api.Add, dec(top, 9), dec(1, 9), dec(1000000000, 0)},
		{api.Sub, dec(1-top, 9), dec(1, 9), dec(-top, 9)},
		{api.Add, dec(top-1, 0), whole(1), dec(top, 0)},
		{api.Add, raw("999999999999999998"), raw("1"), dec(top, 0)},
		{api.Mul, dec(999999999, 0), dec(1000000001, 0), dec(top, 0)},
		{api.Mul, dec(top, 9), dec(1, 0), dec(top, 9)},
		{api.Sub, whole(top), whole(top), whole(0)},
		{api.Add, whole(top), whole(-top), whole(0)},
		{api.Div, whole(top), whole(-1), dec(-top, 0)},
		{api.IDiv, whole(-top), whole(-1), whole(top)},
	} {
		holdReckon(t, row.op, row.a, row.b, row.want, api.OK)
	}
	for _, row := range []struct {
		op   api.Op
		a, b api.Atom
	}{
		{api.Add, whole(top), whole(1)}, {api.Add, whole(-top), whole(-1)}, {api.Sub, whole(-top), whole(1)}, {api.Sub, whole(top), whole(-1)},
		{api.Add, whole(top), whole(top)}, {api.Sub, whole(-top), whole(top)}, {api.Add, whole(top), dec(1, 9)}, {api.Sub, dec(-top, 0), dec(1, 9)},
		{api.Mul, whole(1000000000), whole(1000000000)}, {api.Mul, whole(top), whole(top)}, {api.Mul, whole(-top), whole(2)}, {api.Mul, dec(10000000001, 1), dec(9999999999, 1)},
		{api.Add, raw("999999999999999999"), whole(1)}, {api.Add, dec(top, 9), dec(2, 9)}, {api.Mul, raw("1000000000"), raw("1000000000")},
	} {
		holdReckon(t, row.op, row.a, row.b, api.Atom{}, api.ErrOver)
	}
}

// samples are right values of each kind.
var samples = []api.Atom{
	whole(0), whole(1), whole(-1), whole(2), whole(7), whole(-10), whole(top), whole(-top), whole(1000000000), whole(999999999),
	dec(0, 0), dec(1, 0), dec(25, 1), dec(-25, 1), dec(1, 9), dec(-1, 9), dec(333333333, 9), dec(top, 9), dec(-top, 9), dec(top, 0), dec(-7, 0), dec(1000000001, 9),
	raw("0"), raw("5"), raw(" 5 "), raw("\t-2.5\r\n"), raw("+.5"), raw("1."), raw("-0.0"), raw("007"), raw("1.0000000009"), raw("999999999999999999"), raw("-999999999.999999999"), raw(strings.Repeat("0", 50) + "1"),
	raw("x"), raw(""), raw(" "), raw("."), raw("1e3"), raw("true"), raw("1 2"), raw("--1"), raw("1\u00a0"), raw("٣"),
	raw("1000000000000000000"), raw("-1000000000000000000"), raw("1000000000.000000001"), raw(strings.Repeat("9", 100)),
	text(""), text("a"), text("1"), text(" 5 "), truth(true), truth(false),
}

func TestP171Samples(t *testing.T) {
	errs := map[api.Errno]int{}
	for _, op := range reckoned {
		for _, a := range samples {
			for _, b := range samples {
				want, err := judgedReckon(op, a, b)
				holdReckon(t, op, a, b, want, err)
				errs[err]++
			}
		}
	}
	for _, err := range []api.Errno{api.OK, api.ErrType, api.ErrCast, api.ErrOver, api.ErrZero} {
		if errs[err] < 100 {
			t.Errorf("%v: only %d", err, errs[err])
		}
	}
}

// The first value that is no number tells the error, whatever the second one is.
func TestP171OrderOfErrors(t *testing.T) {
	bad := []struct {
		a   api.Atom
		err api.Errno
	}{
		{text("1"), api.ErrType}, {text(""), api.ErrType}, {truth(true), api.ErrType}, {truth(false), api.ErrType},
		{raw("x"), api.ErrCast}, {raw(""), api.ErrCast}, {raw("1000000000000000000"), api.ErrOver},
	}
	good := []api.Atom{whole(0), whole(1), dec(5, 1), dec(0, 0), raw("3"), raw("0"), whole(top)}
	for _, op := range reckoned {
		for _, x := range bad {
			for _, y := range bad {
				holdReckon(t, op, x.a, y.a, api.Atom{}, x.err)
			}
			for _, y := range good {
				holdReckon(t, op, x.a, y, api.Atom{}, x.err)
				holdReckon(t, op, y, x.a, api.Atom{}, x.err)
			}
		}
	}
}

// Ops that are none of the six, ahead of all that is wrong with the values.
func TestP171OtherOps(t *testing.T) {
	for op := -3; op <= api.Ops+3; op++ {
		if int(api.Add) <= op && op <= int(api.Mod) {
			continue
		}
		for _, a := range samples {
			holdReckon(t, api.Op(op), a, whole(1), api.Atom{}, api.ErrArg)
			holdReckon(t, api.Op(op), whole(1), a, api.Atom{}, api.ErrArg)
		}
	}
	for _, op := range []api.Op{math.MinInt, math.MaxInt, math.MinInt + api.Add, api.Add + 1<<32, api.Add + 1<<8} {
		holdReckon(t, op, whole(1), whole(1), api.Atom{}, api.ErrArg)
	}
}

func TestP171ManyNumbers(t *testing.T) {
	r := rand.New(rand.NewSource(171))
	next := func() api.Atom {
		n := r.Intn(2*top+1) - top
		for range r.Intn(18) {
			n /= 10
		}
		if r.Intn(2) == 0 {
			return whole(n)
		}
		scale := r.Intn(api.MaxScale + 1)
		for scale > 0 && n%10 == 0 {
			n, scale = n/10, scale-1
		}
		return dec(n, scale)
	}
	for range 20000 {
		a, b := next(), next()
		for _, op := range reckoned {
			want, err := judgedReckon(op, a, b)
			holdReckon(t, op, a, b, want, err)
		}
	}
}

// Of values that aren't right nothing is promised but that the call ends.
func TestP171WrongValues(t *testing.T) {
	wrong := []api.Atom{
		{}, {Kind: -1}, {Kind: api.Atoms}, {Kind: math.MaxInt, N: 1}, {Kind: math.MinInt}, whole(top + 1), whole(math.MinInt), whole(math.MaxInt), dec(10, 1), dec(1, 10), dec(1, -1), dec(math.MinInt, math.MinInt), dec(math.MaxInt, math.MaxInt),
		raw("\xff"), raw("\x00"), raw("1\xff"), text("\xff"), {Kind: api.Int, N: 1, Scale: 3, S: "x", B: true}, {Kind: api.Untyped, N: 1, S: "1"}, {Kind: api.Bool, S: "1", B: true},
	}
	for op := -1; op <= api.Ops; op++ {
		for _, a := range append(wrong, samples...) {
			for _, b := range wrong {
				opt.Reckon(api.Op(op), a, b)
				opt.Reckon(api.Op(op), b, a)
			}
		}
	}
}
