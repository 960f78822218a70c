package dice

import (
	"math"
	"math/big"
	"math/rand/v2"
	"strings"
	"testing"

	"abaculus/frac"
)

// weights is the fractions that s tells.
func weights(s string) []frac.Q {
	var w []frac.Q
	for _, x := range strings.Fields(s) {
		q, ok := frac.Parse(x)
		if !ok {
			panic(x)
		}
		w = append(w, q)
	}
	return w
}

// rat is q as the library's fraction.
func rat(q frac.Q) *big.Rat {
	r, _ := new(big.Rat).SetString(q.Text())
	return r
}

// placeOf is what Pick tells of w by the word u, by the library's fractions.
func placeOf(w []frac.Q, u uint64) int {
	all, sum := new(big.Rat), new(big.Rat)
	for _, x := range w {
		all.Add(all, rat(x))
	}
	mark := all.Mul(all, new(big.Rat).SetInt(big64(u)))
	words := new(big.Rat).SetInt(allWords())
	for i, x := range w {
		sum.Add(sum, rat(x))
		if new(big.Rat).Mul(sum, words).Cmp(mark) > 0 {
			return i
		}
	}
	return -1
}

// turns is the words around those at which w's places change.
func turns(w []frac.Q) []uint64 {
	words := []uint64{0, 1, math.MaxUint64, math.MaxUint64 - 1}
	all, sum := new(big.Rat), new(big.Rat)
	for _, x := range w {
		all.Add(all, rat(x))
	}
	for _, x := range w {
		sum.Add(sum, rat(x))
		at := new(big.Rat).Quo(sum, all)
		at.Mul(at, new(big.Rat).SetInt(allWords()))
		u := new(big.Int).Div(at.Num(), at.Denom()).Uint64()
		words = append(words, u-1, u, u+1)
	}
	return words
}

// isPick tells whether Pick of w is right where the next word is u.
func isPick(t *testing.T, w []frac.Q, u uint64) {
	t.Helper()
	d, e := telling(u), telling(u)
	e.Next()
	was := texts(w)
	i, ok := d.Pick(w)
	if !ok || i != placeOf(w, u) || d.State() != e.State() {
		t.Error(was, u, i, ok, placeOf(w, u))
	}
	if texts(w) != was {
		t.Error("changed", was)
	}
}

func texts(w []frac.Q) string {
	var s []string
	for _, x := range w {
		s = append(s, x.Text())
	}
	return strings.Join(s, " ")
}

// 5.3: Pick, at each word where the place changes, and next to it.
func TestPick(t *testing.T) {
	for _, s := range []string{
		"1", "1/7", "0 1", "1 0", "0 0 3 0 0", "1 1", "1 1 1", "1 1 1 1", "1/3 1/3 1/3", "1/2 1 0 1/2",
		"0.1 0.2 0.3 0.4", "1 2 3 4 5 6 7", "0 5 0 0 1/9 0", "18446744073709551615 1", "1 18446744073709551615",
		"1 18446744073709551616", "18446744073709551616 1", "1 100000000000000000000000000000000 1",
		"1/100000000000000000000000000000000 1", "1 1/100000000000000000000000000000000",
		"1/18446744073709551616 1 1/18446744073709551616", "1/2 1/3 1/5 1/7 1/11 1/13 1/17",
	} {
		w := weights(s)
		for _, u := range append(turns(w), edgeWords()[:20]...) {
			isPick(t, w, u)
		}
	}
}

// 5.3: Pick of many lists by chance.
func TestPickOfMany(t *testing.T) {
	r := rand.New(rand.NewPCG(5, 3))
	for range 300 {
		var w []frac.Q
		for range 1 + r.IntN(9) {
			q, _ := frac.Over(max(r.Int64N(40)-10, 0), 1+r.Int64N(30))
			w = append(w, q)
		}
		w = append(w, frac.Of(1))
		for _, u := range append(turns(w), r.Uint64(), r.Uint64()) {
			isPick(t, w, u)
		}
	}
}

// 5.3: what may not be picked of, whose zeros stand, and of which nothing is drawn.
func TestPickOfNone(t *testing.T) {
	d := New(12)
	for _, s := range []string{"", "0", "0 0 0", "-1", "1 -1", "-1 1", "-1 5", "5 -1", "5 -1/1000 5", "0 0 -1/3", "-1 -1", "1 2 3 -100"} {
		if i, ok := d.Pick(weights(s)); ok || i != 0 || d.State() != 12 {
			t.Error(s, i, ok)
		}
	}
	if i, ok := d.Pick([]frac.Q{}); ok || i != 0 || d.State() != 12 {
		t.Error("of an empty list", i, ok)
	}
}

// W1: what is told in another form, or in other units, is picked alike.
func TestPickInOtherForms(t *testing.T) {
	forms := []string{"0.5 1.50 0 2", "1/2 3/2 0/5 4/2", "1 3 0 4", "1/14 3/14 0 4/14", "500 1500 0 2000"}
	for _, u := range append(turns(weights("1 3 0 4")), edgeWords()...) {
		want, _ := telling(u).Pick(weights(forms[0]))
		for _, s := range forms[1:] {
			if got, ok := telling(u).Pick(weights(s)); !ok || got != want {
				t.Error(s, u, got, want)
			}
		}
	}
}

// 5.3: each place comes as often as its weight says.
func TestPickIsByWeight(t *testing.T) {
	d := New(31)
	var seen [4]int
	for range 16000 {
		i, _ := d.Pick(weights("1/2 1 0 5/2"))
		seen[i]++
	}
	for i, want := range []int{2000, 4000, 0, 10000} {
		if seen[i] < want-200 || seen[i] > want+200 || want == 0 && seen[i] != 0 {
			t.Error(i, seen[i], want)
		}
	}
}

// Rule 1: many unlike weights end too.
func TestPickOfMuch(t *testing.T) {
	var w []frac.Q
	for i := range int64(2000) {
		q, _ := frac.Over(i, i+1)
		w = append(w, q)
	}
	for _, u := range []uint64{0, 1 << 63, math.MaxUint64} {
		isPick(t, w, u)
	}
}
