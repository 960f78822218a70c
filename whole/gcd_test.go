package whole

import (
	"math"
	"math/big"
	"testing"

	"abaculus/nat"
)

// checkGcd holds Gcd and Bezout of a and b against the library's own.
func checkGcd(t *testing.T, a, b Int) {
	t.Helper()
	x, y := toBig(a), toBig(b)
	want := new(big.Int).GCD(nil, nil, new(big.Int).Abs(x), new(big.Int).Abs(y))
	check(t, "gcd", From(false, Gcd(a, b)), want)
	check(t, "gcd turned", From(false, Gcd(b, a)), want)
	checkBezout(t, a, b, want)
	check(t, "first", a, x)
	check(t, "second", b, y)
}

func checkBezout(t *testing.T, a, b Int, want *big.Int) {
	t.Helper()
	g, x, y := Bezout(a, b)
	check(t, "bezout's gcd", g, want)
	if a.Mul(x).Add(b.Mul(y)).Cmp(g) != 0 {
		t.Fatal("not g together", a.Text(), b.Text(), x.Text(), y.Text())
	}
	if b.Sign() == 0 {
		if x.Cmp(Of(int64(a.Sign()))) != 0 || !isNone(y) {
			t.Fatal("of a b of 0", a.Text(), x.Text(), y.Text())
		}
		return
	}
	// All that x may be lie as far from one another as b's size by g.
	step, _, _ := From(false, b.Abs()).Div(g)
	if x.Sign() < 0 || x.Cmp(step) >= 0 {
		t.Fatal("not the least from 0 on", a.Text(), b.Text(), x.Text(), y.Text())
	}
	check(t, "x", x, toBig(x))
	check(t, "y", y, toBig(y))
}

// 2.2: Gcd and Bezout of short numbers and of some words, all with all.
func TestGcdOfAll(t *testing.T) {
	list := numbers()
	for n := int64(-12); n <= 12; n++ {
		list = append(list, Of(n))
	}
	for _, a := range list {
		for _, b := range list {
			checkGcd(t, a, b)
		}
	}
}

// 2.2: Gcd and Bezout as they stand in the document, and at their edges.
func TestGcdTold(t *testing.T) {
	for _, w := range [][5]int64{
		{6, 4, 2, 1, -1}, {4, 6, 2, 2, -1}, {-6, 4, 2, 1, 2}, {6, -4, 2, 1, 1}, {-6, -4, 2, 1, -2},
		{5, 0, 5, 1, 0}, {-5, 0, 5, -1, 0}, {0, 5, 5, 0, 1}, {0, -5, 5, 0, -1}, {0, 0, 0, 0, 0},
		{3, 3, 3, 0, 1}, {3, -3, 3, 0, -1}, {12, 4, 4, 0, 1}, {4, 12, 4, 1, 0}, {-4, 12, 4, 2, 1}, {7, 1, 1, 0, 1}, {7, -1, 1, 0, -1},
		{1, 1, 1, 0, 1}, {-1, 0, 1, -1, 0}, {math.MaxInt64, math.MinInt64, 1, math.MaxInt64, math.MaxInt64 - 1},
	} {
		if got := Gcd(Of(w[0]), Of(w[1])); got.Cmp(nat.Of(uint64(w[2]))) != 0 {
			t.Error(w, got.Text())
		}
		g, x, y := Bezout(Of(w[0]), Of(w[1]))
		if g.Cmp(Of(w[2])) != 0 || x.Cmp(Of(w[3])) != 0 || y.Cmp(Of(w[4])) != 0 {
			t.Error(w, g.Text(), x.Text(), y.Text())
		}
	}
}

// 2.2: Gcd and Bezout of long numbers, of unlike lengths, with a long divisor in both or none.
func TestGcdOfLong(t *testing.T) {
	c := chance(11)
	lengths := []int{8, 56, 64, 72, 120, 128, 136, 200, 504, 512, 520, 1000, 3000}
	for _, n := range lengths {
		for _, m := range lengths {
			for i := range 4 {
				a, b := c.number(n), c.number(m)
				checkGcd(t, a, b)
				shared := c.number(lengths[(n+m+i)%9])
				checkGcd(t, a.Mul(shared), b.Mul(shared))
				checkGcd(t, a.Mul(b).Add(Of(int64(i))), b)
			}
		}
	}
	long := Of(1).shift(1 << 16).shift(1<<14 + 5)
	checkGcd(t, long.Sub(Of(1)), long.Add(Of(1)))
	checkGcd(t, long.Add(Of(6)), Of(21).shift(1<<16).shift(777).Sub(Of(35)))
}

// 2.2: Gcd and Bezout where each quotient of Euclid's way is the same one: as
// many steps as may be, of 1; fewer, of great ones; and of both by turns.
func TestGcdByQuotients(t *testing.T) {
	for _, quotients := range [][]Int{
		{Of(1)}, {Of(2)}, {Of(1 << 31)}, {Of(1 << 32)}, {Of(1 << 62)}, {Of(1).shift(64)}, {Of(1).shift(200).Sub(Of(1))},
		{Of(1), Of(1 << 40)}, {Of(1), Of(1), Of(1).shift(130), Of(3)}, {Of(1<<31 - 1), Of(1<<32 - 1), Of(1)},
		{Of(1), Of(1), Of(1), Of(1), Of(1), Of(1), Of(1), Of(1 << 24)},
	} {
		for _, g := range []Int{Of(1), Of(6), Of(1).shift(64), Of(1).shift(100).Sub(Of(1))} {
			a, b := g, Int{}
			for i := range 300 {
				a, b = quotients[i%len(quotients)].Mul(a).Add(b), a
				if i < 40 || i%59 == 0 {
					checkGcd(t, a, b)
					checkGcd(t, a, b.Neg())
				}
			}
		}
	}
}

// inRow tells whether x and y follow one another in Euclid's row of a and b.
func inRow(a, b, x, y *big.Int) bool {
	for b.Sign() != 0 {
		if a.Cmp(x) == 0 && b.Cmp(y) == 0 {
			return true
		}
		a, b = b, new(big.Int).Mod(a, b)
	}
	return a.Cmp(x) == 0 && b.Cmp(y) == 0
}

// The sure steps are those of all numbers that begin so: with all bits below set, with none, and by turns.
func TestSureSteps(t *testing.T) {
	c := chance(17)
	const below = 70
	ones := Of(1).shift(below).Sub(Of(1))
	var steps int
	for i := range 4000 {
		x := int64(c.word() >> 1)
		y := int64(c.word() >> 1 >> (i % 40))
		switch i % 8 {
		case 1:
			y = x - y%100
		case 2:
			y = x/2 + y%3 - 1
		case 3:
			x = math.MaxInt64
		case 4:
			y = x/(1<<31) + y%5 - 2
		}
		l, ok := sureSteps(x, y)
		if !ok {
			continue
		}
		steps++
		for _, bits := range [][2]Int{{{}, {}}, {ones, ones}, {ones, {}}, {{}, ones}} {
			a, b := Of(x).shift(below).Add(bits[0]), Of(y).shift(below).Add(bits[1])
			high := a.Mul(Of(l[0][0])).Add(b.Mul(Of(l[0][1])))
			low := a.Mul(Of(l[1][0])).Add(b.Mul(Of(l[1][1])))
			if !inRow(toBig(a), toBig(b), toBig(high), toBig(low)) {
				t.Fatal(x, y, l, bits)
			}
			e := euclid{wordsOf(a.abs), wordsOf(b.abs)}
			e.by(l)
			if number(e.a).Cmp(high.Abs()) != 0 || number(e.b).Cmp(low.Abs()) != 0 {
				t.Fatal("by", x, y, l, bits)
			}
		}
	}
	if steps < 2000 {
		t.Error("of so few there was a step:", steps)
	}
}

// Of no x below y, and of no y of 0, there is a step.
func TestSureStepsOfNone(t *testing.T) {
	for _, w := range [][2]int64{{0, 0}, {0, 1}, {1, 0}, {1, 1}, {5, 5}, {5, 7}, {math.MaxInt64, 0}, {0, math.MaxInt64}, {math.MaxInt64, math.MaxInt64}, {math.MaxInt64, 1}} {
		if l, ok := sureSteps(w[0], w[1]); ok {
			t.Error(w, l)
		}
	}
}
