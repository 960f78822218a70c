package frac

import (
	"cmp"
	"math/bits"

	"abaculus/whole"
)

// addShort is a and b, which are short, together, as addLong has it; false, if
// something on the way to it is too long.
func addShort(a, b Q) (Q, bool) {
	g := sharedShort(a.den(), b.den())
	timesA, timesB := b.den()/g, a.den()/g
	x, okX := timesShort(a.num, timesA)
	y, okY := timesShort(b.num, timesB)
	num, okNum := plusShort(x, y)
	if !okX || !okY || !okNum {
		return Q{}, false
	}
	again := sharedShort(num, g)
	den, ok := timesShort(timesB, b.den()/again)
	return Q{num: num / again, rest: den - 1}, ok
}

// mulShort is a times b, which are short, as mulLong has it; false, if it is too long.
func mulShort(a, b Q) (Q, bool) {
	g, h := sharedShort(a.num, b.den()), sharedShort(b.num, a.den())
	num, okNum := timesShort(a.num/g, b.num/h)
	den, okDen := timesShort(a.den()/h, b.den()/g)
	return Q{num: num, rest: den - 1}, okNum && okDen
}

// cmpShort holds the sizes of a and b, which are short, against each other.
func cmpShort(a, b Q) int {
	highA, lowA := bits.Mul64(size(a.num), uint64(b.den()))
	highB, lowB := bits.Mul64(size(b.num), uint64(a.den()))
	if highA != highB {
		return cmp.Compare(highA, highB)
	}
	return cmp.Compare(lowA, lowB)
}

// sharedShort is the greatest that divides both; d is above 0, most often 1.
func sharedShort(n, d int64) int64 {
	if d == 1 {
		return 1
	}
	g, _ := whole.Gcd(whole.Of(n), whole.Of(d)).Small()
	return int64(g)
}

// timesShort is x times y; false, if that is above most in size.
func timesShort(x, y int64) (int64, bool) {
	high, low := bits.Mul64(size(x), size(y))
	if high > 0 || low > most {
		return 0, false
	}
	if x < 0 != (y < 0) {
		return -int64(low), true
	}
	return int64(low), true
}

// plusShort is x and y, none above most in size, together; false, if that is above it.
func plusShort(x, y int64) (int64, bool) {
	sum := x + y
	if (sum < x) != (y < 0) || sum < -most {
		return 0, false
	}
	return sum, true
}

// size is how far n is from 0.
func size(n int64) uint64 {
	return uint64(max(n, -n))
}
