package frac

import (
	"abaculus/api"
	"abaculus/nat"
	"abaculus/whole"
)

// Floor is the greatest whole number not above a.
func (a Q) Floor() whole.Int {
	p := a.both()
	q, _, _ := p.num.Div(p.den)
	return q
}

// Near is the nearest multiple of 1 by 2^bits; of two as near the even one.
func (a Q) Near(bits int) Q {
	scale := whole.From(false, nat.Of(1).Shift(min(max(bits, 0), api.MaxBits)))
	p := a.both()
	below, left, _ := p.num.Mul(scale).Div(p.den)
	if left.Sign() == 0 {
		return a
	}
	half := left.Add(left).Cmp(p.den)
	if half > 0 || half == 0 && isOdd(below) {
		below = below.Add(whole.Of(1))
	}
	near, _ := Make(below, scale)
	return near
}

// isOdd tells whether n is odd.
func isOdd(n whole.Int) bool {
	_, left, _ := n.Div(whole.Of(2))
	return left.Sign() > 0
}
