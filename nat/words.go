package nat

import (
	"math/bits"
	"slices"
)

// trim is words without the noughts at their end.
func trim(words []uint64) []uint64 {
	n := len(words)
	for n > 0 && words[n-1] == 0 {
		n--
	}
	return words[:n]
}

// addTo adds x to z, which has at least as many words; what goes beyond them is lost.
func addTo(z, x []uint64) {
	var carry uint64
	for i, word := range x {
		z[i], carry = bits.Add64(z[i], word, carry)
	}
	for i := len(x); carry > 0 && i < len(z); i++ {
		z[i], carry = bits.Add64(z[i], 0, carry)
	}
}

// subFrom takes x, which has no nought at its end, from z, which is not below it.
func subFrom(z, x []uint64) {
	var borrow uint64
	for i, word := range x {
		z[i], borrow = bits.Sub64(z[i], word, borrow)
	}
	for i := len(x); borrow > 0; i++ {
		z[i], borrow = bits.Sub64(z[i], 0, borrow)
	}
}

// mulAdd is w times d, and e more, in two words; that is never too much for them.
func mulAdd(w, d, e uint64) (high, low uint64) {
	high, low = bits.Mul64(w, d)
	low, carry := bits.Add64(low, e, 0)
	return high + carry, low
}

// shiftUp lays x times 2^n (n below a word's bits) into z, which has one word more.
func shiftUp(z, x []uint64, n int) {
	var carry uint64
	for i, word := range x {
		z[i] = word<<n | carry
		carry = word >> (wordBits - n)
	}
	z[len(x)] = carry
}

// shiftDown divides z by 2^n (n below a word's bits), rounded down.
func shiftDown(z []uint64, n int) {
	var carry uint64
	for i, word := range slices.Backward(z) {
		z[i] = word>>n | carry
		carry = word << (wordBits - n)
	}
}
