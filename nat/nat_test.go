package nat

import (
	"math"
	"math/big"
	"testing"
)

func toBig(a Nat) *big.Int { return new(big.Int).SetBytes(a.Bytes()) }

func isNone(a Nat) bool { return a.one == 0 && a.many == nil }

// check holds a against what the library's own numbers tell; what a is made of has one form alone.
func check(t *testing.T, name string, a Nat, want *big.Int) {
	t.Helper()
	if toBig(a).Cmp(want) != 0 {
		t.Fatalf("%s: %s, not %s", name, a.Text(), want)
	}
	if a.many != nil && (a.one != 0 || len(a.many) < 2 || a.many[len(a.many)-1] == 0) {
		t.Fatalf("%s: %s has another form than it should", name, a.Text())
	}
}

// chance is a row of words that are all alike each time.
type chance uint64

func (c *chance) word() uint64 {
	*c = *c*6364136223846793005 + 1442695040888963407
	w := uint64(*c)
	return w ^ w>>29
}

// number has n words; the words are 0, all bits, or by chance.
func (c *chance) number(n int) Nat {
	words := make([]uint64, n)
	style := c.word() >> 20 % 4
	for i := range words {
		switch pick := c.word() >> 20 % 4; {
		case style == 0 || pick == 0:
			words[i] = c.word()
		case pick == 1:
			words[i] = 1<<64 - 1
		case pick == 2:
			words[i] = 1 << 63
		}
	}
	return made(words)
}

// numbers is some of each length up to a few words, at their edges too.
func numbers() []Nat {
	list := []Nat{{}, Of(1), Of(2), Of(3), Of(10), Of(1 << 32), Of(1<<63 - 1), Of(1 << 63), Of(1<<64 - 1)}
	for _, n := range []int{64, 65, 127, 128, 129, 192, 256, 320} {
		power := Of(1).up(n)
		less, _ := power.Sub(Of(1))
		list = append(list, less, power, power.Add(Of(1)))
	}
	c := chance(3)
	for i := range 40 {
		list = append(list, c.number(i%7+1))
	}
	return list
}

// 1.1: the zero value is 0, in each call.
func TestZeroValue(t *testing.T) {
	var none Nat
	if none.Text() != "0" || len(none.Bytes()) != 0 || none.Bits() != 0 || none.Cmp(Of(0)) != 0 || none.Cmp(Of(1)) != -1 {
		t.Error(none.Text(), none.Bytes(), none.Bits())
	}
	if n, ok := none.Small(); n != 0 || !ok {
		t.Error(n, ok)
	}
	if a, ok := Parse("0"); !ok || !isNone(a) {
		t.Error(a.Text(), ok)
	}
	for _, a := range numbers() {
		want := a.Text()
		left, ok := a.Sub(none)
		if a.Add(none).Text() != want || none.Add(a).Text() != want || !ok || left.Text() != want {
			t.Error("0 beside", want)
		}
		if !isNone(a.Mul(none)) || !isNone(none.Mul(a)) {
			t.Error("0 times", want)
		}
		if gone, ok := a.Sub(a); !ok || !isNone(gone) {
			t.Error(want, "less itself", gone.Text(), ok)
		}
	}
	if !isNone(none.Shift(70)) || !isNone(none.Shift(-70)) || !isNone(none.Root()) {
		t.Error("0 shifted, or its root")
	}
}

// 1.1: Small is below 2^64 itself, and nothing from there on.
func TestSmall(t *testing.T) {
	for _, n := range []uint64{0, 1, 1 << 32, 1<<63 - 1, 1 << 63, 1<<64 - 2, 1<<64 - 1} {
		if got, ok := Of(n).Small(); got != n || !ok {
			t.Error(n, got, ok)
		}
	}
	edge := Of(1<<64 - 1).Add(Of(1))
	for _, a := range []Nat{edge, edge.Add(Of(7)), Of(1).Shift(128), Of(5).Shift(1000)} {
		if got, ok := a.Small(); got != 0 || ok {
			t.Error(a.Text(), got, ok)
		}
	}
	below, _ := edge.Sub(Of(1))
	if got, ok := below.Small(); got != 1<<64-1 || !ok {
		t.Error(got, ok)
	}
}

// 1.1: Bits of 0, of powers of 2, and of one less than these.
func TestBits(t *testing.T) {
	if got := Of(0).Bits(); got != 0 {
		t.Error(got)
	}
	for n := range 300 {
		power := Of(1).Shift(n)
		less, _ := power.Sub(Of(1))
		if power.Bits() != n+1 || less.Bits() != n {
			t.Error(n, power.Bits(), less.Bits())
		}
	}
}

// 1.1: Cmp of numbers of one length, which differ high or low, and of unlike lengths.
func TestCmp(t *testing.T) {
	list := numbers()
	for _, a := range list {
		for _, b := range list {
			if got, want := a.Cmp(b), toBig(a).Cmp(toBig(b)); got != want {
				t.Error(a.Text(), b.Text(), got)
			}
		}
	}
	high := Of(2).Shift(128)
	low := Of(1).Shift(128).Add(Of(1<<64 - 1))
	if high.Cmp(low) != 1 || low.Cmp(high) != -1 || high.Add(Of(1)).Cmp(high) != 1 || high.Cmp(Of(1<<64-1)) != 1 || Of(3).Cmp(high) != -1 {
		t.Error("order")
	}
}

// 1.2: Add and Sub; Sub of a greater one is false. What is handed in stays as it was.
func TestAddAndSub(t *testing.T) {
	list := numbers()
	for _, a := range list {
		for _, b := range list {
			x, y := toBig(a), toBig(b)
			check(t, "add", a.Add(b), new(big.Int).Add(x, y))
			left, ok := a.Sub(b)
			if ok != (x.Cmp(y) >= 0) || !ok && !isNone(left) {
				t.Fatal("sub", a.Text(), b.Text(), left.Text(), ok)
			}
			if ok {
				check(t, "sub", left, new(big.Int).Sub(x, y))
			}
			check(t, "first", a, x)
			check(t, "second", b, y)
		}
	}
	all, _ := Of(1).Shift(1000).Sub(Of(1))
	if got := all.Add(Of(1)); got.Cmp(Of(1).Shift(1000)) != 0 {
		t.Error("a carry over all words", got.Text())
	}
	if got, ok := Of(1).Shift(1000).Sub(Of(1)); !ok || got.Bits() != 1000 || got.Add(Of(1)).Bits() != 1001 {
		t.Error("a borrow over all words", got.Text())
	}
}

// 1.2: Shift by less and more than a word, beyond all bits, and beyond 2^16.
func TestShift(t *testing.T) {
	steps := []int{0, 1, 3, 31, 63, 64, 65, 100, 127, 128, 129, 500, 5000, 1<<16 - 1, 1 << 16}
	for _, a := range numbers() {
		x := toBig(a)
		for _, n := range steps {
			check(t, "up", a.Shift(n), new(big.Int).Lsh(x, uint(n)))
			check(t, "down", a.Shift(-n), new(big.Int).Rsh(x, uint(n)))
			check(t, "there and back", a.Shift(n).Shift(-n), x)
		}
		check(t, "shifted", a, x)
	}
	long := Of(5).Shift(1 << 16).Shift(100)
	for _, n := range []int{1<<16 + 1, 1 << 20, 1 << 40, math.MaxInt} {
		if got := Of(3).Shift(n); got.Cmp(Of(3).Shift(1<<16)) != 0 {
			t.Error("up by", n, got.Bits())
		}
		if got := long.Shift(-n); got.Cmp(Of(5).Shift(100)) != 0 {
			t.Error("down by", -n, got.Bits())
		}
	}
	if got := long.Shift(math.MinInt); got.Cmp(Of(5).Shift(100)) != 0 {
		t.Error("down by the most", got.Bits())
	}
}

func TestLowest(t *testing.T) {
	for _, a := range numbers() {
		for _, n := range []int{0, 1, 63, 64, 65, 127, 128, 129, 191, 192, 193, 400} {
			mask := new(big.Int).Lsh(big.NewInt(1), uint(n))
			mask.Sub(mask, big.NewInt(1))
			check(t, "lowest", a.lowest(n), mask.And(mask, toBig(a)))
		}
	}
}

// 1.3 (W1): a number is alike however it was told, and the laws of numbers hold of it.
func TestExact(t *testing.T) {
	list := numbers()
	for i, a := range list {
		b, c := list[(i+7)%len(list)], list[(i*i+3)%len(list)]
		told, _ := Parse(a.Text())
		again := FromBytes(append([]byte{0, 0, 0}, a.Bytes()...))
		shifted := a.Shift(77).Shift(-77)
		if told.Cmp(a) != 0 || again.Cmp(a) != 0 || shifted.Cmp(a) != 0 {
			t.Error("told in another form", a.Text())
		}
		if a.Add(b).Cmp(b.Add(a)) != 0 || a.Mul(b).Cmp(b.Mul(a)) != 0 {
			t.Error("turned", a.Text(), b.Text())
		}
		if a.Add(b).Add(c).Cmp(a.Add(b.Add(c))) != 0 || a.Mul(b).Mul(c).Cmp(a.Mul(b.Mul(c))) != 0 {
			t.Error("joined otherwise", a.Text(), b.Text(), c.Text())
		}
		if a.Mul(b.Add(c)).Cmp(a.Mul(b).Add(a.Mul(c))) != 0 {
			t.Error("of a sum", a.Text(), b.Text(), c.Text())
		}
	}
}
