package score

import (
	"math/big"
	"math/rand/v2"
	"slices"
	"strings"
	"testing"

	"abaculus/api"
	"abaculus/frac"
	"abaculus/nat"
	"abaculus/whole"
)

// chance tells the same numbers in each run.
func chance(seed uint64) *rand.Rand {
	return rand.New(rand.NewPCG(seed, 9))
}

// q is the fraction of a text.
func q(s string) frac.Q {
	a, ok := frac.Parse(s)
	if !ok {
		panic("no fraction: " + s)
	}
	return a
}

// list is the fractions of a text, with spaces between.
func list(s string) []frac.Q {
	var l []frac.Q
	for _, x := range strings.Fields(s) {
		l = append(l, q(x))
	}
	return l
}

// bigInt is a as one of the library's own.
func bigInt(a whole.Int) *big.Int {
	n := new(big.Int).SetBytes(a.Abs().Bytes())
	if a.Sign() < 0 {
		n.Neg(n)
	}
	return n
}

// toBig is a as one of the library's own.
func toBig(a frac.Q) *big.Rat {
	return new(big.Rat).SetFrac(bigInt(a.Num()), bigInt(whole.From(false, a.Den())))
}

// bigs is l as the library's own.
func bigs(l []frac.Q) []*big.Rat {
	var all []*big.Rat
	for _, a := range l {
		all = append(all, toBig(a))
	}
	return all
}

// over is n by d, of the library's own; 0 where d is 0.
func over(n, d int64) *big.Rat {
	if d == 0 {
		return new(big.Rat)
	}
	return big.NewRat(n, d)
}

// holds tells whether a is want, in lowest terms.
func holds(a frac.Q, want *big.Rat) bool {
	return a.Text() == want.RatString()
}

// isZero tells whether a is the zero value.
func isZero(a frac.Q) bool {
	return a == frac.Q{}
}

// number is a fraction by chance: most often a small one, sometimes a long one.
func number(c *rand.Rand) frac.Q {
	a, _ := frac.Over(int64(c.IntN(41)-20), int64(1+c.IntN(6)))
	if c.IntN(12) == 0 {
		b := make([]byte, 30)
		for i := range b {
			b[i] = byte(c.Uint32())
		}
		long, _ := frac.Make(whole.From(false, nat.FromBytes(b[:17])), whole.From(false, nat.FromBytes(b[17:]).Add(nat.Of(1))))
		a = a.Add(long)
	}
	return a
}

// numbers is n fractions by chance.
func numbers(c *rand.Rand, n int) []frac.Q {
	var l []frac.Q
	for range n {
		l = append(l, number(c))
	}
	return l
}

// marks is n truths by chance.
func marks(c *rand.Rand, n int) []bool {
	var l []bool
	for range n {
		l = append(l, c.IntN(2) == 0)
	}
	return l
}

// classes is n classes by chance, below many.
func classes(c *rand.Rand, n, many int) []int {
	var l []int
	for range n {
		l = append(l, c.IntN(many))
	}
	return l
}

// unlike is pairs of lengths that do not go together.
func unlike() [][2]int {
	return [][2]int{{0, 0}, {0, 1}, {1, 0}, {1, 2}, {2, 1}, {5, 4}, {4, 5}, {0, 300}, {300, 0}}
}

// 9.1: all: ErrShape of lists that are not of one length, or empty, whatever they are.
func TestShapes(t *testing.T) {
	c := chance(1)
	for _, n := range unlike() {
		a, b := numbers(c, n[0]), numbers(c, n[1])
		k, l := classes(c, n[0], 2), classes(c, n[1], 2)
		is := make([]bool, n[0])
		p := make([][]frac.Q, n[1])
		for i := range p {
			p[i] = list("1/3 2/3")
		}
		for name, of := range map[string]func() (frac.Q, api.Errno){
			"Right":   func() (frac.Q, api.Errno) { return Right(k, l) },
			"Squares": func() (frac.Q, api.Errno) { return Squares(a, b) },
			"Sizes":   func() (frac.Q, api.Errno) { return Sizes(a, b) },
			"Told":    func() (frac.Q, api.Errno) { return Told(a, b) },
			"Tilt":    func() (frac.Q, api.Errno) { return Tilt(a, b, q("1/2")) },
			"Brier":   func() (frac.Q, api.Errno) { return Brier(k, p) },
			"Area":    func() (frac.Q, api.Errno) { return Area(is, b) },
		} {
			if got, e := of(); e != api.ErrShape || !isZero(got) {
				t.Error(name, n, got.Text(), e)
			}
		}
		if got, e := Table(k, l, 2); e != api.ErrShape || len(got) != 0 {
			t.Error("Table", n, got, e)
		}
		if got, e := Curve(is, b); e != api.ErrShape || len(got) != 0 {
			t.Error("Curve", n, got, e)
		}
	}
}

// 9.1: no list and an empty one are alike.
func TestEmpty(t *testing.T) {
	if got, e := Right([]int{}, nil); e != api.ErrShape || !isZero(got) {
		t.Error("Right", got.Text(), e)
	}
	if got, e := Sizes(nil, []frac.Q{}); e != api.ErrShape || !isZero(got) {
		t.Error("Sizes", got.Text(), e)
	}
	if got, e := Brier([]int{}, [][]frac.Q{}); e != api.ErrShape || !isZero(got) {
		t.Error("Brier", got.Text(), e)
	}
	if got, e := Curve([]bool{}, []frac.Q{}); e != api.ErrShape || len(got) != 0 {
		t.Error("Curve", got, e)
	}
	if got, e := Rates([][]int{}); e != api.ErrShape || len(got) != 0 {
		t.Error("Rates", got, e)
	}
}

// Rule 2: what is handed in stays as it was.
func TestGivenStays(t *testing.T) {
	c := chance(2)
	for n := 1; n < 30; n++ {
		a, b := numbers(c, n), numbers(c, n)
		k, l := classes(c, n, 3), classes(c, n, 3)
		is := marks(c, n)
		p := make([][]frac.Q, n)
		for i := range p {
			p[i] = numbers(c, 3)
		}
		wasA, wasB, wasK, wasL := slices.Clone(a), slices.Clone(b), slices.Clone(k), slices.Clone(l)
		wasIs, wasP := slices.Clone(is), make([][]frac.Q, n)
		for i := range p {
			wasP[i] = slices.Clone(p[i])
		}
		Right(k, l)
		table, _ := Table(k, l, 3)
		wasTable := [][]int{slices.Clone(table[0]), slices.Clone(table[1]), slices.Clone(table[2])}
		Rates(table)
		Squares(a, b)
		Sizes(a, b)
		Told(a, b)
		Tilt(a, b, q("1/3"))
		Brier(k, p)
		Curve(is, b)
		Area(is, b)
		if !slices.Equal(a, wasA) || !slices.Equal(b, wasB) || !slices.Equal(k, wasK) || !slices.Equal(l, wasL) {
			t.Error("lists", n)
		}
		if !slices.Equal(is, wasIs) || !slices.EqualFunc(p, wasP, slices.Equal) || !slices.EqualFunc(table, wasTable, slices.Equal) {
			t.Error("rows", n)
		}
	}
}
