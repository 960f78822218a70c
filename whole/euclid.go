package whole

import (
	"math/bits"
	"slices"

	"abaculus/nat"
)

const (
	wordBits  = 64
	wordBytes = wordBits / 8
)

// euclid is two numbers of Euclid's row, one behind the other, as words, the
// lowest first, the last not 0. They are its own: a step writes into them.
type euclid struct {
	a, b []uint64
}

// lines is a turn by short numbers; those of one line are of unlike signs, or one is 0.
type lines [2][2]int64

// step goes one step on or, as it is the faster one, some; b is not 0.
func (e *euclid) step() turn {
	if l, ok := sureSteps(e.tops()); ok {
		e.by(l)
		return turn{{Of(l[0][0]), Of(l[0][1])}, {Of(l[1][0]), Of(l[1][1])}}
	}
	q, left, _ := number(e.a).Div(number(e.b))
	e.a, e.b = e.b, wordsOf(left)
	return turn{{Of(0), Of(1)}, {Of(1), From(true, q)}}
}

// tops is the highest bits of both, from one place on: as many as go into an int64.
func (e *euclid) tops() (x, y int64) {
	last := max(len(e.a), len(e.b)) - 1
	shift := bits.LeadingZeros64(word(e.a, last) | word(e.b, last))
	return top(e.a, last, shift), top(e.b, last, shift)
}

// top is 63 bits, of which the highest is shift bits below the highest of the last word.
func top(words []uint64, last, shift int) int64 {
	high := word(words, last)<<shift | word(words, last-1)>>(wordBits-shift)
	return int64(high >> 1)
}

// sureSteps is the steps that x and y have in common with all numbers that begin
// with their bits, whatever bits come below; false, if there is none.
//
// What stands in x is u0 times the first x and v0 times the first y, what stands
// in y u1 and v1 times. The bits below add less than 1 to each of the first ones:
// so x may be too great by v0's size and y be off by v1's, as no u is of greater
// size than the v beside it (but u0 at the beginning, when x is surely not too
// great). As long as y is not below 0 all the same, and x above y, each quotient
// up to there was the right one.
//
// The sizes of v1 times x and of v0 times y are the first x together, all the
// way: so nothing here gets too great, and a v1 that is told is below 2^32.
func sureSteps(x, y int64) (sure lines, ok bool) {
	u0, v0, u1, v1 := int64(1), int64(0), int64(0), int64(1)
	for y >= size(v1) && x-y >= size(v0-v1) {
		sure = lines{{u0, v0}, {u1, v1}}
		q := x / y
		x, y = y, x-q*y
		u0, u1 = u1, u0-q*u1
		v0, v1 = v1, v0-q*v1
	}
	return sure, sure[0][1] != 0
}

// size is how far n is from 0.
func size(n int64) int64 {
	return max(n, -n)
}

// by goes all the steps of l, in one walk over the words of both.
func (e *euclid) by(l lines) {
	a, b := e.a, e.b
	for len(b) < len(a) {
		b = append(b, 0)
	}
	var carryA, carryB int64
	for i, wordA := range a {
		wordB := b[i]
		a[i], carryA = mulAdd(wordA, wordB, l[0], carryA)
		b[i], carryB = mulAdd(wordA, wordB, l[1], carryB)
	}
	e.a, e.b = trim(a), trim(b)
}

// mulAdd is a and b as often as line tells, and carry; in a word, and what goes
// beyond it, which is less than 2^33 in size.
func mulAdd(a, b uint64, line [2]int64, carry int64) (low uint64, high int64) {
	highA, lowA := bits.Mul64(a, uint64(line[0]))
	highB, lowB := bits.Mul64(b, uint64(line[1]))
	low, c := bits.Add64(lowA, lowB, 0)
	low, d := bits.Add64(low, uint64(carry), 0)
	// A number below 0 was taken as 2^64 more than it is.
	highA -= a & uint64(line[0]>>63)
	highB -= b & uint64(line[1]>>63)
	return low, int64(highA+highB+c+d) + carry>>63
}

// leftByWord is what is left of words divided by d, which is not 0.
func leftByWord(words []uint64, d uint64) uint64 {
	var left uint64
	for _, w := range slices.Backward(words) {
		_, left = bits.Div64(left, w, d)
	}
	return left
}

// word is the i-th of words; 0 beyond them.
func word(words []uint64, i int) uint64 {
	if i < 0 || i >= len(words) {
		return 0
	}
	return words[i]
}

// trim is words without the noughts at their end.
func trim(words []uint64) []uint64 {
	n := len(words)
	for n > 0 && words[n-1] == 0 {
		n--
	}
	return words[:n]
}

// wordsOf is a's words, new ones.
func wordsOf(a nat.Nat) []uint64 {
	b := a.Bytes()
	words := make([]uint64, (len(b)+wordBytes-1)/wordBytes)
	for i, c := range b {
		place := len(b) - 1 - i
		words[place/wordBytes] |= uint64(c) << (place % wordBytes * 8)
	}
	return words
}

// number is the number of these words.
func number(words []uint64) nat.Nat {
	b := make([]byte, 0, len(words)*wordBytes)
	for _, w := range slices.Backward(words) {
		for i := range wordBytes {
			b = append(b, byte(w>>(wordBits-8-8*i)))
		}
	}
	return nat.FromBytes(b)
}
