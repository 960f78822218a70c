package frac

import (
	"math/big"
	"testing"
)

// checkField holds Add, Sub, Mul and Div of a and b against the library's own.
func checkField(t *testing.T, a, b Q) {
	t.Helper()
	x, y := toBig(a), toBig(b)
	check(t, "add", a.Add(b), new(big.Rat).Add(x, y))
	check(t, "sub", a.Sub(b), new(big.Rat).Sub(x, y))
	check(t, "mul", a.Mul(b), new(big.Rat).Mul(x, y))
	by, ok := a.Div(b)
	if ok != (y.Sign() != 0) || !ok && !isNone(by) {
		t.Fatal("div", a.Text(), b.Text(), by.Text(), ok)
	}
	if ok {
		check(t, "div", by, new(big.Rat).Quo(x, y))
	}
	check(t, "first", a, x)
	check(t, "second", b, y)
}

// 3.3: Add, Sub, Mul and Div of all with all; what is handed in stays as it was.
func TestFieldOfAll(t *testing.T) {
	list := numbers()
	for _, a := range list {
		for _, b := range list {
			checkField(t, a, b)
		}
	}
}

// 3.3: the same of fractions whose parts share much, short and long.
func TestFieldOfShared(t *testing.T) {
	c := chance(7)
	for i := range 400 {
		g, h := c.fraction(1+i%70, 1), c.fraction(1+i%45, 1)
		a, b := c.fraction(1+i%50, 1+i%31), c.fraction(1+i%37, 1+i%41)
		if g.Sign() == 0 || h.Sign() == 0 || a.Sign() == 0 {
			continue
		}
		x, _ := a.Mul(h).Div(g)
		y, _ := b.Mul(g).Div(h)
		z, _ := b.Div(g)
		checkField(t, x, y)
		checkField(t, x, z)
		checkField(t, x, x)
		checkField(t, z, Of(int64(i)).Sub(z))
		up, _ := a.turned().Mul(g).Div(h)
		checkField(t, x, up)
	}
}

// 3.3: sums and products that are short again, though what is on the way to them is not.
func TestShortAgain(t *testing.T) {
	half, third := q("9223372036854775807/2"), q("1/9223372036854775807")
	checkField(t, half, half)
	checkField(t, half, half.Neg())
	checkField(t, half, q("2/9223372036854775807"))
	checkField(t, third, q("1/9223372036854775806"))
	checkField(t, third, third)
	long := q("170141183460469231731687303715884105727/3")
	for _, a := range []Q{q("1/3"), q("7/11"), Of(5), third} {
		if got := long.Add(a).Sub(long); got != a {
			t.Error(a.Text(), got.Text())
		}
		if got, _ := long.Mul(a).Div(long); got != a {
			t.Error(a.Text(), got.Text())
		}
	}
}

// 3.6 (W1): the rules of a field.
func TestRules(t *testing.T) {
	list := numbers()
	same := func(name string, a, b Q) {
		t.Helper()
		if a.Cmp(b) != 0 || a.Text() != b.Text() {
			t.Fatal(name, a.Text(), b.Text())
		}
	}
	for i, a := range list {
		for _, k := range []int{1, 7, 11, 30} {
			b, c := list[(i+k)%len(list)], list[(i*i+k)%len(list)]
			same("turned", a.Add(b), b.Add(a))
			same("turned", a.Mul(b), b.Mul(a))
			same("joined otherwise", a.Add(b).Add(c), a.Add(b.Add(c)))
			same("joined otherwise", a.Mul(b).Mul(c), a.Mul(b.Mul(c)))
			same("of a sum", a.Mul(b.Add(c)), a.Mul(b).Add(a.Mul(c)))
			same("less", a.Sub(b), b.Sub(a).Neg())
			if a.Cmp(b) != a.Add(c).Cmp(b.Add(c)) || a.Cmp(b) != b.Neg().Cmp(a.Neg()) {
				t.Fatal("order", a.Text(), b.Text(), c.Text())
			}
		}
		same("by 1", a.Mul(Of(1)), a)
		if over, ok := Of(1).Div(a); ok {
			same("turned over", over.Mul(a), Of(1))
		}
	}
}
