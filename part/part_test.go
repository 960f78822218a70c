package part

import (
	"math"
	"math/rand/v2"
	"slices"
	"testing"

	"abaculus/api"
	"abaculus/dice"
)

// chance tells the same numbers in each run.
func chance(seed uint64) *rand.Rand {
	return rand.New(rand.NewPCG(seed, 8))
}

// twin is another dice that goes on as d does.
func twin(d *dice.Dice) *dice.Dice {
	return dice.New(d.State())
}

// sizes is numbers of rows, the least and the most that may be among them.
func sizes() []int {
	all := []int{api.MaxRows - 1, api.MaxRows}
	for n := range 26 {
		all = append(all, n)
	}
	return all
}

// isRising tells whether each of l is above the one ahead.
func isRising(l []int) bool {
	for i := 1; i < len(l); i++ {
		if l[i] <= l[i-1] {
			return false
		}
	}
	return true
}

// shareNothing tells whether each of lists stays as it is, where another one is
// written over up to the end of its room.
func shareNothing(lists ...[]int) bool {
	for i, l := range lists {
		was := make([][]int, len(lists))
		for j, m := range lists {
			was[j] = slices.Clone(m)
		}
		l = l[:cap(l)]
		for j := range l {
			l[j] = -7 - i
		}
		for j, m := range lists {
			if j != i && !slices.Equal(m, was[j]) {
				return false
			}
		}
	}
	return true
}

// holdParts holds parts against the rows in the order in which they are dealt:
// the i-th is in part i modulo k, each part rising.
func holdParts(t *testing.T, parts [][]int, order []int, k int) {
	t.Helper()
	if len(parts) != k {
		t.Fatal(len(parts), "parts, not", k)
	}
	many := 0
	for _, p := range parts {
		many += len(p)
		if !isRising(p) {
			t.Fatal("not rising", p)
		}
	}
	if many != len(order) {
		t.Fatal(many, "rows, not", len(order))
	}
	for i, row := range order {
		if !slices.Contains(parts[i%k], row) {
			t.Fatal(row, "is not in part", i%k, parts)
		}
	}
}

// holdEven tells whether counts are alike, or unlike by one.
func holdEven(counts []int) bool {
	return slices.Max(counts)-slices.Min(counts) <= 1
}

// 8.1: Halves by each number of rows to be tried with.
func TestHalves(t *testing.T) {
	for _, n := range sizes() {
		for test := range n + 1 {
			d := dice.New(uint64(n*1000 + test))
			w := twin(d)
			order := w.Order(n)
			train, rest, e := Halves(n, test, d)
			if e != api.OK || len(rest) != test || len(train) != n-test {
				t.Fatal(n, test, train, rest, e)
			}
			if !isRising(train) || !isRising(rest) {
				t.Fatal("not rising", n, test, train, rest)
			}
			for i, row := range order {
				if slices.Contains(rest, row) != (i < test) || slices.Contains(train, row) != (i >= test) {
					t.Fatal(n, test, row, order, train, rest)
				}
			}
			if d.State() != w.State() {
				t.Fatal(n, test, "another number of words was drawn")
			}
		}
	}
}

// 8.1: Halves' errors; a dice of which a wrong thing is asked has told nothing.
func TestHalvesRefused(t *testing.T) {
	for _, x := range [][2]int{
		{5, -1}, {5, math.MinInt}, {5, 6}, {5, math.MaxInt}, {0, 1}, {0, -1},
		{-1, 0}, {-1, -1}, {-1, -2}, {math.MinInt, 0}, {math.MinInt, math.MinInt},
		{api.MaxRows + 1, 0}, {api.MaxRows + 1, 3}, {api.MaxRows + 1, api.MaxRows + 1},
		{math.MaxInt, 5}, {math.MaxInt, math.MaxInt}, {math.MaxInt, -1},
	} {
		d := dice.New(3)
		train, rest, e := Halves(x[0], x[1], d)
		if e != api.ErrArg || len(train)+len(rest) != 0 || d.State() != 3 {
			t.Error(x, len(train), len(rest), e, d.State())
		}
	}
}

// folds is some ways to make parts of n rows: the fewest, the most, and others.
func folds(n int) []int {
	var all []int
	for _, k := range []int{2, 3, 4, 5, 7, 10, n / 2, n - 1, n} {
		if k >= 2 && k <= n {
			all = append(all, k)
		}
	}
	return all
}

// 8.1, 8.3: Folds; parts are as great as one another, or by one.
func TestFolds(t *testing.T) {
	for _, n := range sizes() {
		for _, k := range folds(n) {
			d := dice.New(uint64(n*1000 + k))
			w := twin(d)
			got, e := Folds(n, k, d)
			if e != api.OK {
				t.Fatal(n, k, e)
			}
			holdParts(t, got, w.Order(n), k)
			if d.State() != w.State() {
				t.Fatal(n, k, "another number of words was drawn")
			}
			var counts []int
			for _, p := range got {
				counts = append(counts, len(p))
			}
			if !holdEven(counts) {
				t.Fatal(n, k, counts)
			}
		}
	}
}

// wrongFolds is numbers of rows and of parts that may not be.
func wrongFolds() [][2]int {
	return [][2]int{
		{5, 1}, {5, 0}, {5, -2}, {5, math.MinInt}, {5, 6}, {5, math.MaxInt},
		{1, 2}, {1, 1}, {0, 0}, {0, 2}, {0, -1},
		{api.MaxRows + 1, 2}, {api.MaxRows + 1, api.MaxRows + 1}, {api.MaxRows + 1, 1},
	}
}

// 8.1: Folds' errors.
func TestFoldsRefused(t *testing.T) {
	wrong := append(wrongFolds(), [2]int{-1, 2}, [2]int{-3, -3}, [2]int{math.MinInt, 2},
		[2]int{math.MaxInt, 2}, [2]int{math.MaxInt, math.MaxInt})
	for _, x := range wrong {
		d := dice.New(4)
		if got, e := Folds(x[0], x[1], d); e != api.ErrArg || len(got) != 0 || d.State() != 4 {
			t.Error(x, len(got), e, d.State())
		}
	}
}

// labelsOf is n labels by chance, below a number by chance, or all of them alike.
func labelsOf(c *rand.Rand, n int) []int {
	from, below := 0, 1+c.IntN(api.MaxClasses)
	if c.IntN(3) == 0 {
		from = api.MaxClasses - below
	}
	labels := make([]int, n)
	for i := range labels {
		labels[i] = from + c.IntN(below)
	}
	return labels
}

// byLabel is order, label by label.
func byLabel(order, labels []int) []int {
	var l []int
	for label := range api.MaxClasses {
		for _, row := range order {
			if labels[row] == label {
				l = append(l, row)
			}
		}
	}
	return l
}

// 8.1, 8.3: Even; parts are as great as one another, or by one, of each label, too.
func TestEven(t *testing.T) {
	c := chance(1)
	for _, n := range sizes() {
		for _, k := range folds(n) {
			for range 4 {
				labels := labelsOf(c, n)
				was := slices.Clone(labels)
				d := dice.New(c.Uint64())
				w := twin(d)
				got, e := Even(labels, k, d)
				if e != api.OK || !slices.Equal(labels, was) {
					t.Fatal(n, k, e, labels, was)
				}
				holdParts(t, got, byLabel(w.Order(n), labels), k)
				if d.State() != w.State() {
					t.Fatal(n, k, "another number of words was drawn")
				}
				holdLabels(t, got, labels)
			}
		}
	}
}

// holdLabels holds the parts to be as great as one another, or by one, over all
// rows and over those of each label.
func holdLabels(t *testing.T, parts [][]int, labels []int) {
	t.Helper()
	all := make([]int, len(parts))
	for label := range api.MaxClasses {
		counts := make([]int, len(parts))
		for i, p := range parts {
			for _, row := range p {
				if labels[row] == label {
					counts[i]++
					all[i]++
				}
			}
		}
		if !holdEven(counts) {
			t.Fatal(label, counts)
		}
	}
	if !holdEven(all) {
		t.Fatal(all)
	}
}

// 8.1: of labels that are all alike Even is Folds.
func TestEvenOfOneLabel(t *testing.T) {
	for _, label := range []int{0, 5, api.MaxClasses - 1} {
		for seed := range uint64(30) {
			want, _ := Folds(40, 7, dice.New(seed))
			got, e := Even(slices.Repeat([]int{label}, 40), 7, dice.New(seed))
			if e != api.OK || !slices.EqualFunc(got, want, slices.Equal) {
				t.Error(label, seed, got, want, e)
			}
		}
	}
}

// 8.1: Even's errors: of as many rows as of Folds, and of a label at any place.
func TestEvenRefused(t *testing.T) {
	refused := func(labels []int, k int) {
		t.Helper()
		was := slices.Clone(labels)
		d := dice.New(5)
		got, e := Even(labels, k, d)
		if e != api.ErrArg || len(got) != 0 || d.State() != 5 || !slices.Equal(labels, was) {
			t.Error(len(labels), k, len(got), e, d.State())
		}
	}
	for _, x := range wrongFolds() {
		refused(make([]int, x[0]), x[1])
	}
	refused(nil, 2)
	for _, n := range []int{2, 6, api.MaxRows} {
		for place := range n {
			for _, label := range []int{-1, math.MinInt, api.MaxClasses, math.MaxInt} {
				labels := make([]int, n)
				labels[place] = label
				refused(labels, 2)
			}
		}
	}
}

// Rule 2: no two lists of an answer share memory.
func TestPartsAreNew(t *testing.T) {
	for seed := range uint64(20) {
		d := dice.New(seed)
		for test := range 12 {
			if train, rest, _ := Halves(11, test, d); !shareNothing(train, rest) {
				t.Error("Halves", seed, test)
			}
		}
		for k := 2; k < 12; k++ {
			if parts, _ := Folds(11, k, d); !shareNothing(parts...) {
				t.Error("Folds", seed, k)
			}
			labels := []int{3, 0, 3, 1, 1, 3, 0, 2, 3, 3, 1}
			if parts, _ := Even(labels, k, d); !shareNothing(append(parts, labels)...) {
				t.Error("Even", seed, k)
			}
		}
	}
}

// told is what is told of some rows, one list behind another.
func told(d *dice.Dice) [][]int {
	labels := []int{1, 0, 0, 1, 2, 2, 1, 0, 1}
	train, rest, _ := Halves(9, 4, d)
	parts, _ := Folds(9, 4, d)
	even, _ := Even(labels, 3, d)
	bag, out := Boot(9, d)
	all := [][]int{train, rest, bag, out}
	return slices.Concat(all, parts, even)
}

// 8.3, W7: the same seed tells the same, whatever other dice tell in between;
// another one tells otherwise.
func TestSameSeed(t *testing.T) {
	other := dice.New(0)
	unlike := 0
	for seed := range uint64(50) {
		d, w := dice.New(seed), dice.New(seed)
		for range 5 {
			one := told(d)
			between := told(other)
			if two := told(w); !slices.EqualFunc(one, two, slices.Equal) {
				t.Fatal(seed, one, two)
			}
			if !slices.EqualFunc(one, between, slices.Equal) {
				unlike++
			}
		}
	}
	if unlike < 200 {
		t.Error("other seeds tell the same too often:", unlike)
	}
}
