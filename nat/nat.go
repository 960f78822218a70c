// Package nat is whole numbers from 0 on, of any size: see chapter 1.
package nat

import (
	"cmp"
	"math/bits"
	"slices"
)

const (
	wordBits  = 64
	mostShift = 1 << 16
)

// Nat is a whole number from 0 on: see chapter 1.
//
// Most numbers are short: these stand in the value itself and take no memory
// beside it. What many holds is never written again once a Nat has it, so that
// several may share it.
type Nat struct {
	one  uint64   // the number, if it is below 2^64; else 0
	many []uint64 // nil, if it is below 2^64; else its words, the lowest first, the last not 0
}

// Of is n.
func Of(n uint64) Nat {
	return Nat{one: n}
}

// made is the number of these words, the lowest first; they are its own from then on.
func made(words []uint64) Nat {
	words = trim(words)
	switch len(words) {
	case 0:
		return Nat{}
	case 1:
		return Nat{one: words[0]}
	}
	return Nat{many: words}
}

// pair is high times 2^64, and low.
func pair(high, low uint64) Nat {
	if high == 0 {
		return Nat{one: low}
	}
	return Nat{many: []uint64{low, high}}
}

// words is a's words, the lowest first, the last not 0; room is where the only one may stand.
func (a Nat) words(room *[1]uint64) []uint64 {
	if a.many != nil {
		return a.many
	}
	room[0] = a.one
	return trim(room[:])
}

// Small is a itself; false, if it is not below 2^64.
func (a Nat) Small() (uint64, bool) {
	return a.one, a.many == nil
}

// Bits is how many bits a has; 0 of 0.
func (a Nat) Bits() int {
	if a.many == nil {
		return bits.Len64(a.one)
	}
	last := len(a.many) - 1
	return last*wordBits + bits.Len64(a.many[last])
}

// Cmp is -1, 0 or 1: a is below b, alike, above.
func (a Nat) Cmp(b Nat) int {
	if d := cmp.Compare(len(a.many), len(b.many)); d != 0 {
		return d
	}
	for i, word := range slices.Backward(a.many) {
		if d := cmp.Compare(word, b.many[i]); d != 0 {
			return d
		}
	}
	return cmp.Compare(a.one, b.one)
}

// Add is a and b together.
func (a Nat) Add(b Nat) Nat {
	if a.many == nil && b.many == nil {
		sum, carry := bits.Add64(a.one, b.one, 0)
		return pair(carry, sum)
	}
	if len(a.many) < len(b.many) {
		a, b = b, a
	}
	var room [1]uint64
	sum := make([]uint64, len(a.many)+1)
	copy(sum, a.many)
	addTo(sum, b.words(&room))
	return made(sum)
}

// Sub is a less b; false, if b is above.
func (a Nat) Sub(b Nat) (Nat, bool) {
	if a.Cmp(b) < 0 {
		return Nat{}, false
	}
	if a.many == nil {
		return Nat{one: a.one - b.one}, true
	}
	var room [1]uint64
	left := slices.Clone(a.many)
	subFrom(left, b.words(&room))
	return made(left), true
}

// Shift is a times 2^n, rounded down; n beyond 2^16 in size is taken as 2^16, of its sign.
func (a Nat) Shift(n int) Nat {
	if n < 0 {
		return a.down(-max(n, -mostShift))
	}
	return a.up(min(n, mostShift))
}

// up is a times 2^n, whatever size n has (from 0 on).
func (a Nat) up(n int) Nat {
	if a.many == nil && n < wordBits {
		return pair(a.one>>(wordBits-n), a.one<<n)
	}
	var room [1]uint64
	words := a.words(&room)
	out := make([]uint64, n/wordBits+len(words)+1)
	shiftUp(out[n/wordBits:], words, n%wordBits)
	return made(out)
}

// down is a divided by 2^n, rounded down, whatever size n has (from 0 on).
func (a Nat) down(n int) Nat {
	if a.many == nil {
		return Nat{one: a.one >> n}
	}
	out := slices.Clone(a.many[min(n/wordBits, len(a.many)):])
	shiftDown(out, n%wordBits)
	return made(out)
}

// lowest is the number that a's lowest n bits make.
func (a Nat) lowest(n int) Nat {
	if n >= a.Bits() {
		return a
	}
	if a.many == nil {
		return Nat{one: a.one & (1<<n - 1)}
	}
	last := n / wordBits
	out := slices.Clone(a.many[:last+1])
	out[last] &= 1<<(n%wordBits) - 1
	return made(out)
}
