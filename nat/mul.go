package nat

import "math/bits"

const (
	mostPower = 1 << 16
	mulWords  = 40 // from so many words on a product by halves is the faster one
)

// Mul is a times b.
func (a Nat) Mul(b Nat) Nat {
	if a.many == nil && b.many == nil {
		return pair(bits.Mul64(a.one, b.one))
	}
	var roomA, roomB [1]uint64
	return made(product(a.words(&roomA), b.words(&roomB)))
}

// Pow is a's n-th power; false of an n below 0 or above 2^16.
func (a Nat) Pow(n int) (Nat, bool) {
	if n < 0 || n > mostPower {
		return Nat{}, false
	}
	power := Of(1)
	for i := bits.Len(uint(n)) - 1; i >= 0; i-- {
		power = power.Mul(power)
		if n>>i&1 == 1 {
			power = power.Mul(a)
		}
	}
	return power, true
}

// product is x times y, in as many words as both have together.
func product(x, y []uint64) []uint64 {
	if len(x) < len(y) {
		x, y = y, x
	}
	half := (len(x) + 1) / 2
	switch {
	case len(y) < mulWords:
		return productByWords(x, y)
	case len(y) <= half:
		z := make([]uint64, len(x)+len(y))
		copy(z, product(x[:half], y))
		addTo(z[half:], product(x[half:], y))
		return z
	}
	return productByHalves(x, y, half)
}

// productByWords multiplies x by each word of y.
func productByWords(x, y []uint64) []uint64 {
	z := make([]uint64, len(x)+len(y))
	for k, d := range y {
		var carry uint64
		row := z[k : k+len(x)]
		for i, word := range x {
			high, low := mulAdd(word, d, carry)
			row[i], carry = bits.Add64(row[i], low, 0)
			carry += high
		}
		z[k+len(x)] = carry
	}
	return z
}

// productByHalves does with three products of halves instead of four: those of
// the lower ones, of the upper ones, and of the sums, which is both of them and
// the two that are crossed.
func productByHalves(x, y []uint64, half int) []uint64 {
	z := make([]uint64, len(x)+len(y))
	low := product(x[:half], y[:half])
	high := product(x[half:], y[half:])
	crossed := product(sum(x[:half], x[half:]), sum(y[:half], y[half:]))
	subFrom(crossed, trim(low))
	subFrom(crossed, trim(high))
	copy(z, low)
	copy(z[len(low):], high)
	addTo(z[half:], trim(crossed))
	return z
}

// sum is x and y together; x has at least as many words.
func sum(x, y []uint64) []uint64 {
	z := make([]uint64, len(x)+1)
	copy(z, x)
	addTo(z, y)
	return trim(z)
}
