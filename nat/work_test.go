package nat

import (
	"math"
	"math/big"
	"testing"
)

// edges is lengths in words on both sides of where a product or a quotient is
// made another way.
func edges() []int {
	const long = divBits / wordBits
	return []int{1, 2, 3, mulWords - 1, mulWords, mulWords + 1, 2*mulWords - 1, 2 * mulWords, 2*mulWords + 1, long - 1, long, long + 1, 2*long + 1, 4*long + 3}
}

func checkMul(t *testing.T, a, b Nat) {
	t.Helper()
	x, y := toBig(a), toBig(b)
	check(t, "mul", a.Mul(b), new(big.Int).Mul(x, y))
	check(t, "first", a, x)
	check(t, "second", b, y)
}

func checkDiv(t *testing.T, a, b Nat) {
	t.Helper()
	x, y := toBig(a), toBig(b)
	q, r, ok := a.Div(b)
	if isNone(b) {
		if ok || !isNone(q) || !isNone(r) {
			t.Fatal("by 0", a.Text(), q.Text(), r.Text(), ok)
		}
		return
	}
	if !ok || q.Mul(b).Add(r).Cmp(a) != 0 || r.Cmp(b) >= 0 {
		t.Fatal("div", a.Text(), b.Text(), q.Text(), r.Text(), ok)
	}
	wantQ, wantR := new(big.Int).QuoRem(x, y, new(big.Int))
	check(t, "quotient", q, wantQ)
	check(t, "left", r, wantR)
	check(t, "first", a, x)
	check(t, "second", b, y)
}

// 1.2: Mul and Div of short numbers and of some words, all with all.
func TestMulAndDiv(t *testing.T) {
	list := numbers()
	for _, a := range list {
		for _, b := range list {
			checkMul(t, a, b)
			checkDiv(t, a, b)
		}
	}
	if q, r, ok := Of(7).Div(Of(2)); !ok || q.Text() != "3" || r.Text() != "1" {
		t.Error("7 by 2", q.Text(), r.Text(), ok)
	}
	if q, r, ok := Of(7).Div(Of(1).Shift(100)); !ok || !isNone(q) || r.Text() != "7" {
		t.Error("by a greater one", q.Text(), r.Text(), ok)
	}
}

// 1.2: Mul and Div of long numbers, of which both may be long, or one.
func TestMulAndDivOfLong(t *testing.T) {
	c := chance(11)
	for _, n := range edges() {
		for _, m := range edges() {
			for range 3 {
				a, b := c.number(n), c.number(m)
				checkMul(t, a, b)
				checkDiv(t, a, b)
				product := a.Mul(b)
				checkDiv(t, product, b)
				if less, ok := product.Sub(Of(1)); ok {
					checkDiv(t, less, b)
				}
			}
		}
	}
}

// 1.2: Mul of numbers that carry as much as they can, as all their bits are set.
func TestMulOfAllBits(t *testing.T) {
	for _, n := range edges() {
		for _, m := range edges() {
			a, _ := Of(1).up(n * wordBits).Sub(Of(1))
			b, _ := Of(1).up(m * wordBits).Sub(Of(1))
			checkMul(t, a, b)
			checkDiv(t, a.Mul(b), a)
			checkDiv(t, a.up(m*wordBits), b)
		}
	}
}

// 1.2: Div where a word of the quotient is guessed too great.
func TestDivGuessedTooGreat(t *testing.T) {
	top := Of(1).Shift(191)
	less, _ := top.Sub(Of(1))
	word := Of(1<<64 - 1)
	for _, x := range []struct{ a, b Nat }{
		{top.Add(Of(3)), Of(1).Shift(189).Add(Of(1))},
		{less.Shift(64), top},
		{less.Shift(64).Add(word), top},
		{top.Shift(64), top.Add(word)},
		{top.Shift(128), top.Add(word.Shift(64))},
		{Of(1<<63 - 1).Shift(192).Add(word.Shift(64)), Of(1 << 63).Shift(128).Add(word)},
		{Of(1 << 63).Shift(256), Of(1 << 63).Shift(128).Add(Of(1))},
	} {
		checkDiv(t, x.a, x.b)
	}
	// The tops of both guess one too many by far more than a word.
	const n = 3 * divBits
	ones, _ := Of(1).up(n).Sub(Of(1))
	b := Of(1).up(2*n - 1).Add(ones)
	for _, a := range []Nat{b.Mul(ones), Of(1).up(3*n - 2), ones.up(2 * n), b.up(n)} {
		checkDiv(t, a, b)
		if one, ok := a.Sub(Of(1)); ok {
			checkDiv(t, one, b)
		}
	}
}

// 1.2: Pow, with 1 for a power of 0, and false of an n that may not be.
func TestPow(t *testing.T) {
	for _, a := range numbers() {
		for _, n := range []int{0, 1, 2, 3, 5, 8, 31, 64} {
			got, ok := a.Pow(n)
			if !ok {
				t.Fatal(a.Text(), n)
			}
			check(t, "pow", got, new(big.Int).Exp(toBig(a), big.NewInt(int64(n)), nil))
		}
		for _, n := range []int{-1, -2, -1 << 16, 1<<16 + 1, 1 << 17, math.MaxInt, math.MinInt} {
			if got, ok := a.Pow(n); ok || !isNone(got) {
				t.Fatal(a.Text(), n, got.Text(), ok)
			}
		}
	}
	const most = 1 << 16
	if got, ok := Of(2).Pow(most); !ok || got.Cmp(Of(1).Shift(most)) != 0 {
		t.Error("2 to the most", got.Bits(), ok)
	}
	if got, ok := Of(0).Pow(most); !ok || !isNone(got) {
		t.Error("0 to the most", got.Text(), ok)
	}
	if got, ok := Of(1).Pow(most); !ok || got.Text() != "1" {
		t.Error("1 to the most", got.Text(), ok)
	}
	got, ok := Of(3).Pow(most)
	if !ok {
		t.Fatal("3 to the most")
	}
	check(t, "3 to the most", got, new(big.Int).Exp(big.NewInt(3), big.NewInt(most), nil))
}

// checkRoot holds that a's root squared is not above a, and that of the next one is.
func checkRoot(t *testing.T, a Nat) {
	t.Helper()
	x := toBig(a)
	check(t, "root", a.Root(), new(big.Int).Sqrt(x))
	check(t, "of", a, x)
}

// 1.2: Root of squares, one less, one more; of each small number; of long ones.
func TestRoot(t *testing.T) {
	for n := range uint64(2000) {
		checkRoot(t, Of(n))
		checkRoot(t, Of(1<<64-1-n))
		checkRoot(t, Of(1<<64-1).Add(Of(n)))
	}
	if got := Of(17).Root().Text(); got != "4" {
		t.Error("17", got)
	}
	list := append(numbers(), Of(1<<32-1), Of(1<<32), Of(1<<32+1))
	c := chance(5)
	for _, n := range edges() {
		list = append(list, c.number(n))
	}
	for _, a := range list {
		checkRoot(t, a)
		square := a.Mul(a)
		checkRoot(t, square)
		checkRoot(t, square.Add(Of(1)))
		if less, ok := square.Sub(Of(1)); ok {
			checkRoot(t, less)
		}
		checkRoot(t, square.Add(a).Add(a))
		checkRoot(t, square.Add(a).Add(a).Add(Of(1)))
	}
}
