package whole

import (
	"math"
	"math/big"
	"strings"
	"testing"

	"abaculus/api"
	"abaculus/nat"
)

func toBig(a Int) *big.Int {
	n := new(big.Int).SetBytes(a.abs.Bytes())
	if a.neg {
		n.Neg(n)
	}
	return n
}

func fromBig(n *big.Int) Int {
	return From(n.Sign() < 0, nat.FromBytes(n.Bytes()))
}

func isNone(a Int) bool { return !a.neg && a.abs.Bits() == 0 }

// check holds a against what the library's own numbers tell; 0 has one form alone.
func check(t *testing.T, name string, a Int, want *big.Int) {
	t.Helper()
	if toBig(a).Cmp(want) != 0 || a.Text() != want.String() {
		t.Fatalf("%s: %s, not %s", name, a.Text(), want)
	}
	if a.neg && a.abs.Bits() == 0 {
		t.Fatalf("%s: a 0 below 0", name)
	}
}

// chance is a row of words that are all alike each time.
type chance uint64

func (c *chance) word() uint64 {
	*c = *c*6364136223846793005 + 1442695040888963407
	w := uint64(*c)
	return w ^ w>>29
}

// number has n bits at most; its bytes are 0, all bits, or by chance.
func (c *chance) number(n int) Int {
	b := make([]byte, n/8)
	style := c.word() >> 20 % 3
	for i := range b {
		switch pick := c.word() >> 20 % 3; {
		case style == 0 || pick == 0:
			b[i] = byte(c.word() >> 30)
		case pick == 1:
			b[i] = 255
		}
	}
	return From(c.word()>>20&1 == 1, nat.FromBytes(b))
}

// numbers is some of each length up to a few words, at their edges too, on both sides of 0.
func numbers() []Int {
	list := []Int{{}}
	for _, n := range []uint64{1, 2, 3, 10, 1 << 32, 1<<63 - 1, 1 << 63, 1<<63 + 1, 1<<64 - 1} {
		list = append(list, From(false, nat.Of(n)), From(true, nat.Of(n)))
	}
	for _, n := range []int{64, 65, 128, 192} {
		power := Of(1).shift(n)
		for _, a := range []Int{power.Sub(Of(1)), power, power.Add(Of(1))} {
			list = append(list, a, a.Neg())
		}
	}
	c := chance(3)
	for i := range 30 {
		list = append(list, c.number(i%8*40+16))
	}
	return list
}

// shift is a times 2^n.
func (a Int) shift(n int) Int { return From(a.neg, a.abs.Shift(n)) }

// 2.1: the zero value is 0, in each call.
func TestZeroValue(t *testing.T) {
	var none Int
	if none.Text() != "0" || none.Sign() != 0 || none.Cmp(Of(0)) != 0 || none.Cmp(Of(1)) != -1 || none.Cmp(Of(-1)) != 1 {
		t.Error(none.Text(), none.Sign())
	}
	if n, ok := none.Small(); n != 0 || !ok {
		t.Error(n, ok)
	}
	if none.Abs().Bits() != 0 || !isNone(none.Neg()) || none.Neg().Text() != "0" {
		t.Error("0 turned")
	}
	if a, ok := Parse("0"); !ok || !isNone(a) {
		t.Error(a.Text(), ok)
	}
	for _, a := range numbers() {
		x := toBig(a)
		check(t, "and 0", a.Add(none), x)
		check(t, "0 and", none.Add(a), x)
		check(t, "less 0", a.Sub(none), x)
		check(t, "0 less", none.Sub(a), new(big.Int).Neg(x))
		for _, gone := range []Int{a.Sub(a), a.Add(a.Neg()), a.Mul(none), none.Mul(a)} {
			if !isNone(gone) || gone.Text() != "0" || gone.Sign() != 0 {
				t.Error(a.Text(), gone.Text(), gone.Sign())
			}
		}
	}
}

// 2.1: Of and Small, there and back, at the edges of int64; beyond them there's nothing.
func TestSmall(t *testing.T) {
	for _, n := range []int64{0, 1, -1, 1 << 32, -1 << 32, math.MaxInt64 - 1, math.MaxInt64, math.MinInt64 + 1, math.MinInt64} {
		check(t, "of", Of(n), big.NewInt(n))
		if got, ok := Of(n).Small(); got != n || !ok {
			t.Error(n, got, ok)
		}
	}
	most, least := Of(math.MaxInt64), Of(math.MinInt64)
	for _, a := range []Int{most.Add(Of(1)), least.Neg(), least.Sub(Of(1)), Of(1).shift(64), Of(-1).shift(64), Of(5).shift(300), Of(-5).shift(300)} {
		if got, ok := a.Small(); got != 0 || ok {
			t.Error(a.Text(), got, ok)
		}
	}
	if got, ok := most.Add(Of(1)).Neg().Small(); got != math.MinInt64 || !ok {
		t.Error(got, ok)
	}
}

// 2.1: From is the number or its negative; 0 of 0.
func TestFrom(t *testing.T) {
	for _, a := range numbers() {
		size := new(big.Int).Abs(toBig(a))
		check(t, "from", From(false, a.Abs()), size)
		check(t, "from below", From(true, a.Abs()), new(big.Int).Neg(size))
	}
	for _, a := range []Int{From(true, nat.Of(0)), From(false, nat.Of(0)), From(true, nat.FromBytes([]byte{0, 0}))} {
		if !isNone(a) || a.Text() != "0" || a.Sign() != 0 || a.Cmp(Of(0)) != 0 {
			t.Error(a.Text(), a.Sign())
		}
	}
}

// 2.1: a text there and back, up to MaxDigits digits beside the sign.
func TestTextThereAndBack(t *testing.T) {
	texts := []string{"0", "9223372036854775807", "9223372036854775808", "18446744073709551616"}
	for n := 1; n <= api.MaxDigits; n += 7 {
		texts = append(texts, strings.Repeat("9", n), "1"+strings.Repeat("0", n-1))
	}
	texts = append(texts, strings.Repeat("9", api.MaxDigits))
	for _, s := range texts {
		for _, sign := range []string{"", "-"} {
			if sign+s == "-0" {
				continue
			}
			a, ok := Parse(sign + s)
			if !ok || a.Text() != sign+s || toBig(a).String() != sign+s {
				t.Errorf("Parse(%q) is %s, %v", sign+s, a.Text(), ok)
			}
		}
	}
	for _, a := range numbers() {
		back, ok := Parse(a.Text())
		if !ok || back.Cmp(a) != 0 {
			t.Error(a.Text(), back.Text(), ok)
		}
	}
	power, _ := Of(-10).Pow(301)
	if got := power.Text(); got != "-1"+strings.Repeat("0", 301) {
		t.Error("a long one", got)
	}
}

// 2.1: another text is refused, "-0" too, and more than MaxDigits digits.
func TestParseRefuses(t *testing.T) {
	most := api.MaxDigits
	texts := []string{
		"", "-", "--", "-0", "--5", "---5", "+5", "-+5", "+-5", "5-", "00", "-00", "007", "-07", "- 5", " -5", "-5 ",
		"-5\n", "5.", "-.5", "1/2", "-1/2", "a", "-a", "-5a", "0x1", "1e3", "1_0", "\u22125", "\u20135", "\u0661", "-\x00", "\xff",
		"1" + strings.Repeat("0", most), "-1" + strings.Repeat("0", most), "-" + strings.Repeat("0", most), strings.Repeat("-", 5000),
	}
	for _, s := range texts {
		if a, ok := Parse(s); ok || !isNone(a) {
			t.Errorf("Parse(%q) is %s, %v", s, a.Text(), ok)
		}
	}
}

// 2.1: Sign, Abs and Neg.
func TestSignAbsNeg(t *testing.T) {
	for _, a := range numbers() {
		x := toBig(a)
		if a.Sign() != x.Sign() {
			t.Error(a.Text(), a.Sign())
		}
		check(t, "abs", From(false, a.Abs()), new(big.Int).Abs(x))
		check(t, "neg", a.Neg(), new(big.Int).Neg(x))
		check(t, "neg twice", a.Neg().Neg(), x)
		check(t, "of", a, x)
	}
}

// 2.1, 2.2: Cmp, Add, Sub and Mul of all with all; what is handed in stays as it was.
func TestCmpAddSubMul(t *testing.T) {
	list := numbers()
	for _, a := range list {
		for _, b := range list {
			x, y := toBig(a), toBig(b)
			if got, want := a.Cmp(b), x.Cmp(y); got != want {
				t.Fatal("cmp", a.Text(), b.Text(), got)
			}
			check(t, "add", a.Add(b), new(big.Int).Add(x, y))
			check(t, "sub", a.Sub(b), new(big.Int).Sub(x, y))
			check(t, "mul", a.Mul(b), new(big.Int).Mul(x, y))
			check(t, "first", a, x)
			check(t, "second", b, y)
		}
	}
}

// 2.2: Div rounds down, what is left has the divisor's sign; false of 0.
func TestDiv(t *testing.T) {
	list := numbers()
	for _, a := range list {
		for _, b := range list {
			q, r, ok := a.Div(b)
			if b.Sign() == 0 {
				if ok || !isNone(q) || !isNone(r) {
					t.Fatal("by 0", a.Text(), q.Text(), r.Text(), ok)
				}
				continue
			}
			x, y := toBig(a), toBig(b)
			wantQ, wantR := new(big.Int).QuoRem(x, y, new(big.Int))
			if wantR.Sign() == -y.Sign() {
				wantQ.Sub(wantQ, big.NewInt(1))
				wantR.Add(wantR, y)
			}
			if !ok || r.Sign() != 0 && r.Sign() != b.Sign() || r.Abs().Cmp(b.Abs()) >= 0 || b.Mul(q).Add(r).Cmp(a) != 0 {
				t.Fatal(a.Text(), b.Text(), q.Text(), r.Text(), ok)
			}
			check(t, "quotient", q, wantQ)
			check(t, "left", r, wantR)
			check(t, "first", a, x)
			check(t, "second", b, y)
		}
	}
	for _, x := range [][4]int64{
		{7, 2, 3, 1}, {-7, 2, -4, 1}, {7, -2, -4, -1}, {-7, -2, 3, -1},
		{6, 2, 3, 0}, {-6, 2, -3, 0}, {6, -2, -3, 0}, {-6, -2, 3, 0},
		{1, 5, 0, 1}, {-1, 5, -1, 4}, {1, -5, -1, -4}, {-1, -5, 0, -1}, {0, 5, 0, 0}, {0, -5, 0, 0},
	} {
		q, r, ok := Of(x[0]).Div(Of(x[1]))
		if !ok || q.Cmp(Of(x[2])) != 0 || r.Cmp(Of(x[3])) != 0 {
			t.Error(x, q.Text(), r.Text(), ok)
		}
	}
	if q, r, ok := Of(math.MinInt64).Div(Of(-1)); !ok || q.Text() != "9223372036854775808" || !isNone(r) {
		t.Error(q.Text(), r.Text(), ok)
	}
}

// 2.2: Pow, with 1 for a power of 0, and false of an n that may not be.
func TestPow(t *testing.T) {
	for _, a := range numbers() {
		for _, n := range []int{0, 1, 2, 3, 4, 5, 17} {
			got, ok := a.Pow(n)
			if !ok {
				t.Fatal(a.Text(), n)
			}
			check(t, "pow", got, new(big.Int).Exp(toBig(a), big.NewInt(int64(n)), nil))
		}
		for _, n := range []int{-1, -2, -3, 1<<16 + 1, 1<<16 + 2, math.MaxInt, math.MinInt} {
			if got, ok := a.Pow(n); ok || !isNone(got) {
				t.Fatal(a.Text(), n, got.Text(), ok)
			}
		}
	}
	const most = 1 << 16
	if got, ok := Of(-1).Pow(most); !ok || got.Cmp(Of(1)) != 0 {
		t.Error("-1 to the most", got.Text(), ok)
	}
	if got, ok := Of(-1).Pow(most - 1); !ok || got.Cmp(Of(-1)) != 0 {
		t.Error("-1 to one less than the most", got.Text(), ok)
	}
	if got, ok := Of(-2).Pow(most - 1); !ok || got.Cmp(Of(-1).shift(most-1)) != 0 {
		t.Error("-2 to one less than the most", ok)
	}
}

// 2.3 (W1): a number is alike however it was told, and the laws of numbers hold of it.
func TestExact(t *testing.T) {
	list := numbers()
	for i, a := range list {
		told, _ := Parse(a.Text())
		again := From(a.Sign() < 0, nat.FromBytes(append([]byte{0, 0}, a.Abs().Bytes()...)))
		if told.Cmp(a) != 0 || again.Cmp(a) != 0 || again.Text() != a.Text() {
			t.Error("told in another form", a.Text())
		}
		for _, k := range []int{1, 7, 11, 30} {
			b, c := list[(i+k)%len(list)], list[(i*i+k)%len(list)]
			if a.Add(b).Cmp(b.Add(a)) != 0 || a.Mul(b).Cmp(b.Mul(a)) != 0 || a.Sub(b).Cmp(b.Sub(a).Neg()) != 0 {
				t.Error("turned", a.Text(), b.Text())
			}
			if a.Add(b).Add(c).Cmp(a.Add(b.Add(c))) != 0 || a.Mul(b).Mul(c).Cmp(a.Mul(b.Mul(c))) != 0 {
				t.Error("joined otherwise", a.Text(), b.Text(), c.Text())
			}
			if a.Mul(b.Sub(c)).Cmp(a.Mul(b).Sub(a.Mul(c))) != 0 {
				t.Error("of a difference", a.Text(), b.Text(), c.Text())
			}
			if a.Cmp(b) != a.Add(c).Cmp(b.Add(c)) || a.Cmp(b) != b.Neg().Cmp(a.Neg()) {
				t.Error("order", a.Text(), b.Text(), c.Text())
			}
		}
	}
}
