package whole

import (
	"math/bits"

	"abaculus/nat"
)

// pair is how often one number is in each of two others.
type pair [2]Int

// turn is what some steps of Euclid's way make of two numbers: each line tells
// how often the two ahead of them go into one of the two behind them.
type turn [2][2]Int

// Gcd is the greatest that divides both; 0 of 0 and 0.
func Gcd(a, b Int) nat.Nat {
	x, shortX := a.abs.Small()
	y, shortY := b.abs.Small()
	if shortX && shortY {
		return nat.Of(gcdOfWords(x, y))
	}
	_, left, ok := a.abs.Div(b.abs)
	if !ok {
		return a.abs
	}
	e := euclid{wordsOf(b.abs), wordsOf(left)}
	for len(e.b) > 1 {
		e.step()
	}
	if len(e.b) == 0 {
		return number(e.a)
	}
	return nat.Of(gcdOfWords(e.b[0], leftByWord(e.a, e.b[0])))
}

// gcdOfWords is the greatest that divides both: all twos that they share, and
// what their odd parts share. What two odd ones share is in their difference
// too, which is even: so that one gets shorter each time.
func gcdOfWords(x, y uint64) uint64 {
	if x == 0 || y == 0 {
		return x | y
	}
	twos := bits.TrailingZeros64(x | y)
	x >>= bits.TrailingZeros64(x)
	for y > 0 {
		y >>= bits.TrailingZeros64(y)
		x, y = min(x, y), max(x, y)-min(x, y)
	}
	return x << twos
}

// Bezout is the greatest g that divides both; a times x and b times y are g, and
// x is the least from 0 on (of a b of 0 a's sign, and y 0).
func Bezout(a, b Int) (g, x, y Int) {
	if b.Sign() == 0 {
		return Int{abs: a.abs}, Of(int64(a.Sign())), Int{}
	}
	e := euclid{wordsOf(a.abs), wordsOf(b.abs)}
	times := pair{Of(1), Of(0)} // so often is a's size, beside some of b's, in e.a and e.b
	for len(e.b) > 0 {
		times = times.by(e.step())
	}
	g, x = Int{abs: number(e.a)}, times[0]
	if a.neg {
		x = x.Neg()
	}
	period, _, _ := Int{abs: b.abs}.Div(g)
	_, x, _ = x.Div(period)
	y, _, _ = g.Sub(a.Mul(x)).Div(b)
	return g, x, y
}

// by is the pair behind t, if p is the one ahead.
func (p pair) by(t turn) pair {
	var behind pair
	for i, line := range t {
		behind[i] = p[0].Mul(line[0]).Add(p[1].Mul(line[1]))
	}
	return behind
}
