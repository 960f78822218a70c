package nat

import (
	"math/bits"
	"slices"
)

// divBits: with a quotient and a divisor of more bits, to divide by halves is the faster way.
const divBits = 200 * wordBits

// Div is a by b, rounded down, and what is left; false of a b of 0.
func (a Nat) Div(b Nat) (q, r Nat, ok bool) {
	switch {
	case b.Bits() == 0:
		return Nat{}, Nat{}, false
	case a.Cmp(b) < 0:
		return Nat{}, a, true
	case a.many == nil:
		return Of(a.one / b.one), Of(a.one % b.one), true
	case b.many == nil:
		q, r = divByWord(a.many, b.one)
	default:
		q, r = divByLong(a, b)
	}
	return q, r, true
}

// divByWord divides x by d, which is not 0.
func divByWord(x []uint64, d uint64) (q, r Nat) {
	quotient := make([]uint64, len(x))
	var left uint64
	for i, word := range slices.Backward(x) {
		quotient[i], left = bits.Div64(left, word, d)
	}
	return made(quotient), Of(left)
}

// divByLong divides a by b, which has several words: a long quotient is made of
// two shorter ones, its upper and its lower half.
func divByLong(a, b Nat) (q, r Nat) {
	n := b.Bits()
	most := a.Bits() - n + 1 // so many bits the quotient has at most
	switch {
	case a.Cmp(b) < 0:
		return Nat{}, a
	case min(most, n) <= divBits:
		return divByWords(a.many, b.many)
	case most < n:
		return divByTop(a, b, n-most)
	}
	half := most / 2
	upper, left := divByLong(a.down(half), b)
	lower, r := divByLong(left.up(half).Add(a.lowest(half)), b)
	return upper.up(half).Add(lower), r
}

// divByTop divides a by b with the quotient that both have without their lowest
// n bits: of an n so that b keeps as many bits as the quotient has it is right,
// or one or two too great.
func divByTop(a, b Nat, n int) (q, r Nat) {
	q, left := divByLong(a.down(n), b.down(n))
	have := left.up(n).Add(a.lowest(n))
	take := q.Mul(b.lowest(n))
	for have.Cmp(take) < 0 {
		q, _ = q.Sub(Of(1))
		have = have.Add(b)
	}
	r, _ = have.Sub(take)
	return q, r
}

// divByWords divides x by y, which has at least two words and is not above x,
// word by word as one does on paper. Both are shifted up first, so that y's
// highest bit is set: only then the guesses are good.
func divByWords(x, y []uint64) (q, r Nat) {
	n := len(y)
	shift := bits.LeadingZeros64(y[n-1])
	v := make([]uint64, n+1)
	shiftUp(v, y, shift)
	v = v[:n]
	u := make([]uint64, len(x)+1)
	shiftUp(u, x, shift)
	quotient := make([]uint64, len(x)-n+1)
	for i := range slices.Backward(quotient) {
		part := u[i : i+n+1]
		digit := guess(part, v)
		if subTimes(part, v, digit) {
			digit--
			addTo(part, v)
		}
		quotient[i] = digit
	}
	u = u[:n]
	shiftDown(u, shift)
	return made(quotient), made(u)
}

// guess is how often v goes into u, which has one word more, told by the highest
// three words of u and two of v: it is right, or one too great.
func guess(u, v []uint64) uint64 {
	n := len(v)
	if u[n] >= v[n-1] {
		return 1<<wordBits - 1
	}
	digit, left := bits.Div64(u[n], u[n-1], v[n-1])
	high, low := bits.Mul64(digit, v[n-2])
	for high > left || high == left && low > u[n-2] {
		digit--
		var carry uint64
		left, carry = bits.Add64(left, v[n-1], 0)
		if carry > 0 {
			break
		}
		high, low = bits.Mul64(digit, v[n-2])
	}
	return digit
}

// subTimes takes v times d from u, which has one word more than v, and tells
// whether that was more than u.
func subTimes(u, v []uint64, d uint64) bool {
	var carry uint64
	for i, word := range v {
		high, low := mulAdd(word, d, carry)
		left, borrow := bits.Sub64(u[i], low, 0)
		u[i] = left
		carry = high + borrow
	}
	left, borrow := bits.Sub64(u[len(v)], carry, 0)
	u[len(v)] = left
	return borrow > 0
}
