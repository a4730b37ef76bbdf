package dec

import "math/bits"

// wide is a whole number of 128 bits, one below 0 as Go's ints have it: of right numbers nothing here comes near its bounds.
type wide struct {
	high, low uint64
}

func wideOf(n int) wide {
	return wide{uint64(n >> 63), uint64(n)}
}

func (w wide) plus(v wide) wide {
	low, carry := bits.Add64(w.low, v.low, 0)
	high, _ := bits.Add64(w.high, v.high, carry)
	return wide{high, low}
}

func (w wide) minus(v wide) wide {
	low, borrow := bits.Sub64(w.low, v.low, 0)
	high, _ := bits.Sub64(w.high, v.high, borrow)
	return wide{high, low}
}

func (w wide) times(v wide) wide {
	high, low := bits.Mul64(w.low, v.low)
	return wide{high + w.high*v.low + w.low*v.high, low}
}

func (w wide) negative() bool {
	return w.high>>63 == 1
}

// size is w without its sign.
func (w wide) size() wide {
	if w.negative() {
		return wide{}.minus(w)
	}
	return w
}

// signed is the size w with the sign that it shall have.
func (w wide) signed(negative bool) wide {
	if negative {
		return wide{}.minus(w)
	}
	return w
}

func (w wide) compare(v wide) int {
	switch rest := w.minus(v); {
	case rest.negative():
		return -1
	case rest == wide{}:
		return 0
	}
	return 1
}

// divided is the quotient, cut towards 0, and the rest, which has w's sign; v isn't 0.
func (w wide) divided(v wide) (wide, wide) {
	quotient, rest := w.size().share(v.size())
	return quotient.signed(w.negative() != v.negative()), rest.signed(w.negative())
}

// share divides sizes. A v above 64 bits is above every w here: of two numbers made level one alone grows wider than an int.
func (w wide) share(v wide) (wide, wide) {
	if v.high != 0 {
		return wide{}, w
	}
	high, rest := bits.Div64(0, w.high, v.low)
	low, rest := bits.Div64(rest, w.low, v.low)
	return wide{high, low}, wide{0, rest}
}

// power is 10 to the power n.
func power(n int) wide {
	p := uint64(1)
	for range n {
		p *= 10
	}
	return wide{0, p}
}
