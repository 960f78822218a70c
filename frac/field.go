package frac

import "abaculus/whole"

// Add is a and b together.
func (a Q) Add(b Q) Q {
	if a.long == nil && b.long == nil {
		if sum, ok := addShort(a, b); ok {
			return sum
		}
	}
	return addLong(a.both(), b.both())
}

// addLong adds over what both denominators go into. What the sum then shares
// with that is a part of what the denominators shared: so no more is asked for.
func addLong(a, b parts) Q {
	g := shared(a.den, b.den)
	timesA, timesB := without(b.den, g), without(a.den, g)
	num := a.num.Mul(timesA).Add(b.num.Mul(timesB))
	again := shared(num, g)
	return made(without(num, again), timesB.Mul(without(b.den, again)))
}

// Sub is a less b.
func (a Q) Sub(b Q) Q {
	return a.Add(b.Neg())
}

// Mul is a times b.
func (a Q) Mul(b Q) Q {
	if a.long == nil && b.long == nil {
		if product, ok := mulShort(a, b); ok {
			return product
		}
	}
	return mulLong(a.both(), b.both())
}

// mulLong takes out first what one's numerator shares with the other's
// denominator: so what is multiplied is as short as it can be.
func mulLong(a, b parts) Q {
	g, h := shared(a.num, b.den), shared(b.num, a.den)
	num := without(a.num, g).Mul(without(b.num, h))
	return made(num, without(a.den, h).Mul(without(b.den, g)))
}

// Div is a by b; false of a b of 0.
func (a Q) Div(b Q) (Q, bool) {
	if b.Sign() == 0 {
		return Q{}, false
	}
	return a.Mul(b.turned()), true
}

// turned is 1 by a, which is not 0.
func (a Q) turned() Q {
	switch {
	case a.Sign() < 0:
		return a.Neg().turned().Neg()
	case a.long != nil:
		return Q{long: &parts{a.long.den, a.long.num}}
	}
	return Q{num: a.den(), rest: a.num - 1}
}

// shared is the greatest that divides both; 1 is often one of them, and told at once.
func shared(a, b whole.Int) whole.Int {
	if isOne(a) || isOne(b) {
		return whole.Of(1)
	}
	return whole.From(false, whole.Gcd(a, b))
}

// without is a by g, which divides it.
func without(a, g whole.Int) whole.Int {
	if isOne(g) {
		return a
	}
	q, _, _ := a.Div(g)
	return q
}

// isOne tells whether n is 1.
func isOne(n whole.Int) bool {
	return n.Cmp(whole.Of(1)) == 0
}
