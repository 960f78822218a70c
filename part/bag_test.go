package part

import (
	"math"
	"slices"
	"testing"

	"abaculus/api"
	"abaculus/dice"
)

// times is how often row is in l.
func times(l []int, row int) int {
	n := 0
	for _, x := range l {
		if x == row {
			n++
		}
	}
	return n
}

// 8.2: Boot: each row as often as it was drawn, those that were not beside.
func TestBoot(t *testing.T) {
	for _, n := range sizes() {
		for seed := range uint64(20) {
			if n < 1 {
				continue
			}
			d := dice.New(seed)
			w := twin(d)
			drawn := w.Draw(n, n)
			bag, out := Boot(n, d)
			if len(bag) != n || !slices.IsSorted(bag) || !isRising(out) || d.State() != w.State() {
				t.Fatal(n, seed, bag, out)
			}
			for row := range n {
				most := times(drawn, row)
				if times(bag, row) != most || slices.Contains(out, row) != (most == 0) {
					t.Fatal(n, seed, row, drawn, bag, out)
				}
			}
			if len(out) > 0 && (out[0] < 0 || out[len(out)-1] >= n) {
				t.Fatal(n, seed, out)
			}
		}
	}
}

// 8.2: of one row that row is the bag, and a word is drawn.
func TestBootOfOne(t *testing.T) {
	d, w := dice.New(8), dice.New(8)
	w.Next()
	if bag, out := Boot(1, d); !slices.Equal(bag, []int{0}) || len(out) != 0 || d.State() != w.State() {
		t.Error(bag, out)
	}
}

// 8.2: of a number of rows that may not be there is none, and nothing is drawn.
func TestBootOfNone(t *testing.T) {
	for _, n := range []int{0, -1, -5, math.MinInt, api.MaxRows + 1, 1 << 16, 1<<16 + 1, math.MaxInt} {
		d := dice.New(2)
		if bag, out := Boot(n, d); len(bag)+len(out) != 0 || d.State() != 2 {
			t.Error(n, len(bag), len(out))
		}
	}
}

// 8.2: Rest of lists by chance, in any order, rows twice, some that are none.
func TestRest(t *testing.T) {
	c := chance(2)
	for _, n := range sizes() {
		for range 30 {
			var l []int
			for range c.IntN(2*n + 3) {
				l = append(l, c.IntN(n+6)-3)
			}
			was := slices.Clone(l)
			got := Rest(n, l)
			if !isRising(got) || !slices.Equal(l, was) {
				t.Fatal(n, l, was, got)
			}
			many := 0
			for row := range n {
				if !slices.Contains(l, row) {
					many++
				}
				if slices.Contains(got, row) == slices.Contains(l, row) {
					t.Fatal(n, row, l, got)
				}
			}
			if len(got) != many {
				t.Fatal(n, l, got)
			}
		}
	}
}

// 8.2: Rest of the document's example, and at the edges.
func TestRestOfExamples(t *testing.T) {
	for _, x := range []struct {
		n       int
		l, want []int
	}{
		{4, []int{2, 0, 2}, []int{1, 3}},
		{1, nil, []int{0}},
		{1, []int{0}, nil},
		{1, []int{1}, []int{0}},
		{3, []int{}, []int{0, 1, 2}},
		{3, []int{2, 1, 0, 1, 2}, nil},
		{3, []int{-1, 3, math.MinInt, math.MaxInt, api.MaxRows, api.MaxRows - 1}, []int{0, 1, 2}},
		{0, nil, nil},
		{0, []int{0}, nil},
		{-1, []int{0, -1}, nil},
		{math.MinInt, nil, nil},
		{api.MaxRows + 1, nil, nil},
		{api.MaxRows + 1, []int{0, 1}, nil},
		{math.MaxInt, []int{math.MaxInt}, nil},
	} {
		if got := Rest(x.n, x.l); !slices.Equal(got, x.want) {
			t.Error(x.n, x.l, got)
		}
	}
	all := Rest(api.MaxRows, nil)
	if len(all) != api.MaxRows || all[0] != 0 || all[api.MaxRows-1] != api.MaxRows-1 || !isRising(all) {
		t.Error(all)
	}
	if got := Rest(api.MaxRows, all[:api.MaxRows-1]); !slices.Equal(got, []int{api.MaxRows - 1}) {
		t.Error(got)
	}
}

// Rule 2: what is told is new memory, and what was handed in stays as it was.
func TestBagsAreNew(t *testing.T) {
	for seed := range uint64(20) {
		bag, out := Boot(12, dice.New(seed))
		again, rest := Boot(12, dice.New(seed))
		if !shareNothing(bag, out, again, rest) {
			t.Error("Boot", seed)
		}
	}
	for _, l := range [][]int{nil, {1, 2}, {0, 1, 2, 3, 4}, {9, -3}} {
		if !shareNothing(Rest(5, l), Rest(5, l), l) {
			t.Error("Rest", l)
		}
	}
}
