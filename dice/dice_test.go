package dice

import (
	"hash/fnv"
	"math"
	"math/big"
	"math/rand/v2"
	"slices"
	"testing"

	"abaculus/frac"
)

// number is the number of s, in the base that it tells.
func number(s string) *big.Int {
	n, ok := new(big.Int).SetString(s, 0)
	if !ok {
		panic(s)
	}
	return n
}

// allWords is 2^64.
func allWords() *big.Int {
	return new(big.Int).Lsh(big.NewInt(1), 64)
}

// big64 is n as a big number.
func big64(n uint64) *big.Int {
	return new(big.Int).SetUint64(n)
}

// xorDown is n xor itself shifted down.
func xorDown(n *big.Int, by uint) *big.Int {
	return new(big.Int).Xor(n, new(big.Int).Rsh(n, by))
}

// timesWord is n times m modulo 2^64.
func timesWord(n, m *big.Int) *big.Int {
	z := new(big.Int).Mul(n, m)
	return z.Mod(z, allWords())
}

// nextOf is the state behind one of a dice, and its word, by big numbers.
func nextOf(state uint64) (uint64, uint64) {
	s := new(big.Int).Add(big64(state), number("0x9e3779b97f4a7c15"))
	s.Mod(s, allWords())
	z := timesWord(xorDown(s, 30), number("0xbf58476d1ce4e5b9"))
	z = timesWord(xorDown(z, 27), number("0x94d049bb133111eb"))
	return s.Uint64(), xorDown(z, 31).Uint64()
}

// undoXorDown is the word that gives u, xor itself shifted down.
func undoXorDown(u uint64, by uint) uint64 {
	z := u
	for range 64 {
		z = u ^ z>>by
	}
	return z
}

// back is the word that gives u, times m modulo 2^64.
func back(u uint64, m string) uint64 {
	return timesWord(big64(u), new(big.Int).ModInverse(number(m), allWords())).Uint64()
}

// telling is a dice whose next word is u.
func telling(u uint64) *Dice {
	z := undoXorDown(u, 31)
	z = undoXorDown(back(z, "0x94d049bb133111eb"), 27)
	z = undoXorDown(back(z, "0xbf58476d1ce4e5b9"), 30)
	return New(z - 0x9e3779b97f4a7c15)
}

// edgeWords is words at which a sum may run over, and some others.
func edgeWords() []uint64 {
	words := []uint64{0, 1, 2, math.MaxUint64, math.MaxUint64 - 1, 1<<63 - 1, 1 << 63, 1<<63 + 1, 1<<32 - 1, 1 << 32,
		0x9e3779b97f4a7c15, 0x61c8864680b583eb, 0x61c8864680b583ea}
	r := rand.New(rand.NewPCG(5, 1))
	for range 200 {
		words = append(words, r.Uint64())
	}
	return words
}

// 5.1: the first words of some seeds, as other programs tell them too.
func TestFirstWords(t *testing.T) {
	for _, x := range []struct {
		seed uint64
		want []uint64
	}{
		{0, []uint64{0xe220a8397b1dcdaf, 0x6e789e6aa1b965f4, 0x06c45d188009454f, 0xf88bb8a8724c81ec}},
		{1234567, []uint64{6457827717110365317, 3203168211198807973, 9817491932198370423, 4593380528125082431, 16408922859458223821}},
	} {
		d := New(x.seed)
		for i, want := range x.want {
			if got := d.Next(); got != want {
				t.Error(x.seed, i, got, want)
			}
		}
	}
}

// 5.1: each word and each state, held against big numbers.
func TestNext(t *testing.T) {
	for _, seed := range edgeWords() {
		d := New(seed)
		if d.State() != seed || d.State() != seed {
			t.Error("at first", seed, d.State())
		}
		state := seed
		for range 5 {
			var want uint64
			state, want = nextOf(state)
			if got := d.Next(); got != want || d.State() != state {
				t.Error(seed, got, want, d.State(), state)
			}
		}
	}
}

// 5.1: the zero value has the state 0.
func TestZeroDice(t *testing.T) {
	var d Dice
	if d.State() != 0 || d.Next() != 0xe220a8397b1dcdaf {
		t.Error(d.State())
	}
}

// What the other tests lean on: a dice that tells a word tells that one.
func TestTelling(t *testing.T) {
	for _, u := range edgeWords() {
		if got := telling(u).Next(); got != u {
			t.Error(u, got)
		}
	}
}

// 5.3: a fork's seed is a word of the dice, xor the sum of the name's bytes.
func TestFork(t *testing.T) {
	names := []string{"", "a", "b", "ab", "tree", "Tree", "tree ", "\x00", "\x00\x00", "\xff\xfe", "é", "a name that is longer than a name may be"}
	for _, seed := range edgeWords() {
		for _, name := range names {
			d := New(seed)
			state, word := nextOf(seed)
			sum := fnv.New64a()
			sum.Write([]byte(name))
			f := d.Fork(name)
			if f.State() != word^sum.Sum64() || d.State() != state {
				t.Errorf("%d %q: %d, %d", seed, name, f.State(), d.State())
			}
		}
	}
}

// 5.3: a fork is another dice: what is drawn of one is no matter to the other.
func TestForkIsAnother(t *testing.T) {
	d, e := New(3), New(3)
	f, g := d.Fork("x"), e.Fork("x")
	for range 10 {
		f.Next()
	}
	if d.State() != e.State() {
		t.Error("the fork's words are the dice's too")
	}
	d.Next()
	for range 10 {
		g.Next()
	}
	if f.State() != g.State() {
		t.Error("the dice's words are the fork's too")
	}
	if f, g := d.Fork("x"), d.Fork("x"); f == g || f == d || f.State() == g.State() {
		t.Error("two forks are one")
	}
}

// told is what a dice tells, asked for a bit of all.
type told struct {
	next, state, fork uint64
	below, place      int
	ok                bool
	order, drawn      []int
}

func (a told) is(b told) bool {
	return a.next == b.next && a.state == b.state && a.fork == b.fork && a.below == b.below &&
		a.place == b.place && a.ok == b.ok && slices.Equal(a.order, b.order) && slices.Equal(a.drawn, b.drawn)
}

func ask(d *Dice, n int) told {
	var a told
	a.next = d.Next()
	a.below = d.Below(n)
	a.order = d.Order(n)
	a.drawn = d.Draw(n, 5)
	a.place, a.ok = d.Pick([]frac.Q{frac.Of(1), frac.Of(int64(n)), frac.Of(2)})
	a.fork = d.Fork("w").State()
	a.state = d.State()
	return a
}

// 5.4, W7: the same seed tells the same, whatever other dices tell in between.
func TestSameSeed(t *testing.T) {
	for _, seed := range edgeWords() {
		d, e, other := New(seed), New(seed), New(seed+1)
		for n := 1; n < 9; n++ {
			one := ask(d, n)
			ask(other, n)
			if two := ask(e, n); !one.is(two) {
				t.Fatal(seed, n, one, two)
			}
		}
	}
}

// 5.1: a dice of the state goes on as this one does, and is another.
func TestGoesOn(t *testing.T) {
	d := New(77)
	for n := 1; n < 60; n++ {
		e := New(d.State())
		was := d.State()
		want := ask(e, n)
		if d.State() != was {
			t.Fatal("it is the same dice")
		}
		if got := ask(d, n); !got.is(want) {
			t.Fatal(n, got, want)
		}
	}
}
