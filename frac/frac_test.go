package frac

import (
	"math"
	"math/big"
	"testing"

	"abaculus/nat"
	"abaculus/whole"
)

func bigInt(a whole.Int) *big.Int {
	n := new(big.Int).SetBytes(a.Abs().Bytes())
	if a.Sign() < 0 {
		n.Neg(n)
	}
	return n
}

func wholeOf(n *big.Int) whole.Int { return whole.From(n.Sign() < 0, nat.FromBytes(n.Bytes())) }

func toBig(a Q) *big.Rat {
	return new(big.Rat).SetFrac(bigInt(a.Num()), bigInt(whole.From(false, a.Den())))
}

// q is the fraction of a text such as the library's own fractions read.
func q(s string) Q {
	r, ok := new(big.Rat).SetString(s)
	if !ok {
		panic("no fraction: " + s)
	}
	a, _ := Make(wholeOf(r.Num()), wholeOf(r.Denom()))
	return a
}

func isNone(a Q) bool { return a == Q{} }

// check holds a against what the library's own fractions tell; each fraction has one form alone.
func check(t *testing.T, name string, a Q, want *big.Rat) {
	t.Helper()
	num, den := bigInt(a.Num()), bigInt(whole.From(false, a.Den()))
	if num.Cmp(want.Num()) != 0 || den.Cmp(want.Denom()) != 0 {
		t.Fatalf("%s: %s by %s, not %s", name, num, den, want)
	}
	short := num.IsInt64() && den.IsInt64() && num.Int64() != math.MinInt64
	if short != (a.long == nil) || !short && (a.num != 0 || a.rest != 0) {
		t.Fatalf("%s: %s has another form than it should", name, want)
	}
}

// chance is a row of words that are all alike each time.
type chance uint64

func (c *chance) word() uint64 {
	*c = *c*6364136223846793005 + 1442695040888963407
	w := uint64(*c)
	return w ^ w>>29
}

// number has n bits at most.
func (c *chance) number(n int) whole.Int {
	b := make([]byte, (n+7)/8)
	for i := range b {
		b[i] = byte(c.word() >> 30)
	}
	a := nat.FromBytes(b)
	return whole.From(c.word()>>20&1 == 1, a.Shift(-max(a.Bits()-n, 0)))
}

// fraction has n bits above and m below, at most.
func (c *chance) fraction(n, m int) Q {
	for {
		if a, ok := Make(c.number(n), c.number(m)); ok {
			return a
		}
	}
}

// numbers is fractions that are short, long, and at the edge of both, on both sides of 0.
func numbers() []Q {
	list := []Q{{}}
	for _, s := range []string{
		"1", "2", "3", "7", "10", "1/2", "1/3", "2/3", "3/4", "5/6", "7/12", "355/113", "4294967296", "4294967297/3", "1/4294967296", "4294967295/4294967296",
		"9223372036854775806", "9223372036854775807", "9223372036854775808", "9223372036854775809", "18446744073709551615", "18446744073709551616",
		"1/9223372036854775806", "1/9223372036854775807", "1/9223372036854775808", "1/18446744073709551616",
		"9223372036854775807/2", "9223372036854775807/9223372036854775806", "9223372036854775806/9223372036854775807", "9223372036854775808/9223372036854775807",
		"9223372036854775807/9223372036854775808", "18446744073709551615/4", "3/18446744073709551617", "340282366920938463463374607431768211456/3",
	} {
		list = append(list, q(s), q("-"+s))
	}
	c := chance(3)
	for i := range 24 {
		list = append(list, c.fraction(5+17*(i%9), 3+23*(i%7)))
	}
	return list
}

// 3.1: the zero value is 0, in each call.
func TestZeroValue(t *testing.T) {
	var none Q
	if none.Text() != "0" || none.Sign() != 0 || none.Num().Sign() != 0 || none.Den().Text() != "1" || none.Floor().Sign() != 0 {
		t.Error(none.Text(), none.Num().Text(), none.Den().Text())
	}
	for _, zero := range []Q{Of(0), none.Neg(), none.Abs(), none.Near(5), none.Add(none), none.Mul(none), none.Sub(none), q("0/5")} {
		if !isNone(zero) || zero.Cmp(none) != 0 {
			t.Error(zero.Text())
		}
	}
	for _, a := range numbers() {
		x := toBig(a)
		check(t, "and 0", a.Add(none), x)
		check(t, "0 and", none.Add(a), x)
		check(t, "less 0", a.Sub(none), x)
		check(t, "0 less", none.Sub(a), new(big.Rat).Neg(x))
		for _, gone := range []Q{a.Mul(none), none.Mul(a), a.Sub(a), a.Add(a.Neg())} {
			if !isNone(gone) {
				t.Error(a.Text(), gone.Text())
			}
		}
		if got, ok := none.Div(a); ok != (a.Sign() != 0) || !isNone(got) {
			t.Error("0 by", a.Text(), got.Text(), ok)
		}
	}
}

// 3.1: Of is n, at the edges of int64 too.
func TestOf(t *testing.T) {
	for _, n := range []int64{0, 1, -1, 1 << 40, math.MaxInt64, -math.MaxInt64, math.MinInt64 + 1, math.MinInt64} {
		check(t, "of", Of(n), new(big.Rat).SetInt64(n))
	}
}

// 3.1: Over and Make are in lowest terms, Den above 0; false of a d of 0.
func TestOverAndMake(t *testing.T) {
	edges := []int64{0, 1, -1, 2, -2, 3, 6, -6, 35, 1 << 31, 1 << 32, 1 << 62, -1 << 62, math.MaxInt64, math.MaxInt64 - 1, -math.MaxInt64, math.MinInt64, math.MinInt64 + 2}
	for _, n := range edges {
		for _, d := range edges {
			over, okOver := Over(n, d)
			made, okMade := Make(whole.Of(n), whole.Of(d))
			if d == 0 {
				if okOver || okMade || !isNone(over) || !isNone(made) {
					t.Error(n, "by 0", over.Text(), made.Text())
				}
				continue
			}
			if !okOver || !okMade {
				t.Error(n, d, okOver, okMade)
			}
			want := new(big.Rat).SetFrac(big.NewInt(n), big.NewInt(d))
			check(t, "over", over, want)
			check(t, "make", made, want)
		}
	}
	c := chance(5)
	for i := range 200 {
		n, d, k := c.number(1+i), c.number(1+i*7%150), c.number(1+i*3%90)
		if d.Sign() == 0 || k.Sign() == 0 {
			continue
		}
		got, ok := Make(n.Mul(k), d.Mul(k))
		if !ok {
			t.Error(n.Text(), d.Text(), k.Text())
		}
		check(t, "make", got, new(big.Rat).SetFrac(bigInt(n), bigInt(d)))
	}
}

// 3.1: Sign, Neg and Abs.
func TestSignNegAbs(t *testing.T) {
	for _, a := range numbers() {
		x := toBig(a)
		if a.Sign() != x.Sign() {
			t.Error(a.Text(), a.Sign())
		}
		check(t, "neg", a.Neg(), new(big.Rat).Neg(x))
		check(t, "neg twice", a.Neg().Neg(), x)
		check(t, "abs", a.Abs(), new(big.Rat).Abs(x))
		check(t, "of", a, x)
	}
}

// 3.1, 3.3: Cmp, Min and Max of all with all, and of some that are close to one another.
func TestCmp(t *testing.T) {
	list := numbers()
	for _, a := range numbers() {
		list = append(list, a.Add(q("1/1000000007")), a.Add(q("1/1361129467683753853853498429727072845823")))
	}
	for _, a := range list {
		for _, b := range list {
			x, y := toBig(a), toBig(b)
			want := x.Cmp(y)
			if got := a.Cmp(b); got != want {
				t.Fatal(a.Text(), b.Text(), got)
			}
			low, high := x, y
			if want > 0 {
				low, high = y, x
			}
			check(t, "min", Min(a, b), low)
			check(t, "max", Max(a, b), high)
		}
	}
}

// 3.6 (W1): what is told in another form is the same, whichever way it was come by.
func TestExact(t *testing.T) {
	for _, a := range numbers() {
		again, _ := Parse(a.Text())
		check(t, "told again", again, toBig(a))
		for _, k := range []int64{2, -3, 1 << 40, math.MinInt64} {
			times := whole.Of(k)
			more, _ := Make(a.Num().Mul(times), whole.From(false, a.Den()).Mul(times))
			check(t, "not in lowest terms", more, toBig(a))
			back, _ := a.Mul(Of(k)).Div(Of(k))
			check(t, "there and back", back, toBig(a))
			check(t, "up and down", a.Add(Of(k)).Sub(Of(k)), toBig(a))
		}
	}
	half, _ := Over(1, 2)
	for _, s := range []string{"1/2", "2/4", "0.5", "0.50", "50/100", "0.5000000000000000000000"} {
		if a, ok := Parse(s); !ok || a != half {
			t.Error(s, a.Text(), ok)
		}
	}
}
