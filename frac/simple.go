package frac

import "abaculus/whole"

// Simple is, of all above lo, up to hi, of those of least Den the one of least
// size; false, if lo is not below hi.
func Simple(lo, hi Q) (Q, bool) {
	switch {
	case lo.Cmp(hi) >= 0:
		return Q{}, false
	case hi.Sign() < 0:
		return simplest(hi.Neg().both(), lo.Neg().both(), true).Neg(), true
	case lo.Sign() < 0:
		return Q{}, true
	}
	return simplest(lo.both(), hi.both(), false), true
}

// simplest is the one of least Den, and of least size, from low to high, which is
// above it; none is below 0. Of the two ends low is in, if lowIn is set; else high.
//
// Where no whole number is between, all have one whole part: without it and
// turned over they are between two ends again, the other way round.
func simplest(low, high parts, lowIn bool) Q {
	w := way{[2]whole.Int{whole.Of(1), whole.Of(0)}, [2]whole.Int{whole.Of(0), whole.Of(1)}}
	for {
		part, left, _ := low.num.Div(low.den)
		first := part // the first whole number that low lets be
		if !lowIn || left.Sign() > 0 {
			first = part.Add(whole.Of(1))
		}
		// A high that was turned over from 0 has a den of 0: all are below it.
		side := first.Mul(high.den).Cmp(high.num)
		if side < 0 || side == 0 && !lowIn {
			w = w.past(first)
			return made(w.num[0], w.den[0])
		}
		w = w.past(part)
		low, high = parts{high.den, high.num.Sub(part.Mul(high.den))}, parts{low.den, left}
		lowIn = !lowIn
	}
}

// way is the way back from what was turned over: a number x there stands for
// num[0] times x and num[1], by den[0] times x and den[1].
type way struct {
	num, den [2]whole.Int
}

// past is the way back from a number x, if w is the one from part and 1 by x. (So
// part itself stands for num[0] by den[0] then, as if x were without end.)
func (w way) past(part whole.Int) way {
	return way{
		[2]whole.Int{w.num[0].Mul(part).Add(w.num[1]), w.num[0]},
		[2]whole.Int{w.den[0].Mul(part).Add(w.den[1]), w.den[0]},
	}
}
