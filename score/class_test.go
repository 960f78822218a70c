package score

import (
	"math"
	"math/big"
	"math/rand/v2"
	"slices"
	"testing"

	"abaculus/api"
)

// most is what the numbers of a table may come to.
const most = 1<<31 - 1

// 9.1: Right, of classes and of numbers that are none.
func TestRight(t *testing.T) {
	for _, x := range []struct {
		want, got []int
		text      string
	}{
		{[]int{0, 1, 1}, []int{0, 1, 0}, "2/3"},
		{[]int{0}, []int{0}, "1"},
		{[]int{0}, []int{1}, "0"},
		{[]int{2, 2, 5, 7}, []int{2, 5, 2, 7}, "1/2"},
		{[]int{-1, math.MinInt, math.MaxInt, 99}, []int{-1, math.MinInt, math.MaxInt, -99}, "3/4"},
		{[]int{0, 1}, []int{1, 0}, "0"},
	} {
		if got, e := Right(x.want, x.got); e != api.OK || got.Text() != x.text {
			t.Error(x.want, x.got, got.Text(), e)
		}
	}
	c := chance(3)
	for n := 1; n < 400; n += 1 + n/9 {
		want, got := classes(c, n, 3), classes(c, n, 3)
		alike := int64(0)
		for i := range want {
			if want[i] == got[i] {
				alike++
			}
		}
		if r, e := Right(want, got); e != api.OK || !holds(r, over(alike, int64(n))) {
			t.Error(n, alike, r.Text(), e)
		}
	}
}

// 9.1: Table: how often, rows by want, columns by got.
func TestTable(t *testing.T) {
	c := chance(4)
	for many := 1; many <= api.MaxClasses; many++ {
		for range 30 {
			n := 1 + c.IntN(80)
			want, got := classes(c, n, many), classes(c, n, many)
			table, e := Table(want, got, many)
			if e != api.OK || len(table) != many {
				t.Fatal(many, table, e)
			}
			for row := range many {
				if len(table[row]) != many {
					t.Fatal(many, table)
				}
				for column := range many {
					often := 0
					for i := range want {
						if want[i] == row && got[i] == column {
							often++
						}
					}
					if table[row][column] != often {
						t.Fatal(want, got, row, column, table)
					}
				}
			}
		}
	}
	table, e := Table([]int{0, 0, 1}, []int{1, 1, 0}, 3)
	if e != api.OK || !slices.EqualFunc(table, [][]int{{0, 2, 0}, {1, 0, 0}, {0, 0, 0}}, slices.Equal) {
		t.Error(table, e)
	}
}

// 9.1: Table's errors: ErrShape ahead of ErrArg; a class that is none at any place.
func TestTableRefused(t *testing.T) {
	refused := func(want, got []int, many int, as api.Errno) {
		t.Helper()
		if table, e := Table(want, got, many); e != as || len(table) != 0 {
			t.Error(want, got, many, table, e)
		}
	}
	for _, many := range []int{0, -1, math.MinInt, api.MaxClasses + 1, math.MaxInt} {
		refused([]int{0}, []int{0}, many, api.ErrArg)
		refused(nil, nil, many, api.ErrShape)
		refused([]int{0, 0}, []int{0}, many, api.ErrShape)
	}
	refused([]int{0, 7}, []int{0}, 2, api.ErrShape)
	for many := 1; many <= api.MaxClasses; many++ {
		for _, class := range []int{-1, math.MinInt, many, many + 1, math.MaxInt} {
			for place := range 4 {
				fine, wrong := make([]int, 4), make([]int, 4)
				wrong[place] = class
				refused(wrong, fine, many, api.ErrArg)
				refused(fine, wrong, many, api.ErrArg)
				refused(wrong, wrong, many, api.ErrArg)
			}
		}
		if table, e := Table([]int{many - 1}, []int{many - 1}, many); e != api.OK || table[many-1][many-1] != 1 {
			t.Error(many, table, e)
		}
	}
}

// Rule 2: the rows of a table share no memory with one another.
func TestTableIsNew(t *testing.T) {
	table, _ := Table([]int{0, 1, 2}, []int{0, 1, 2}, 3)
	for i, row := range table {
		for j := range row[:cap(row)] {
			row[:cap(row)][j] = -1 - i
		}
	}
	for i, row := range table {
		for _, n := range row {
			if n != -1-i {
				t.Error(table)
			}
		}
	}
}

// tableOf is a square table by chance, with rows and columns of noughts among its own.
func tableOf(c *rand.Rand, many int) [][]int {
	highest := 1 + c.IntN(3)
	if c.IntN(5) == 0 {
		highest = most / (many * many)
	}
	table := make([][]int, many)
	for i := range table {
		table[i] = make([]int, many)
		for j := range table[i] {
			table[i][j] = c.IntN(highest + 1)
		}
	}
	for i := range table {
		for j := range table {
			if i%5 == 1 && many > 2 {
				table[i][j] = 0
			}
			if i%4 == 2 {
				table[j][i] = 0
			}
		}
	}
	return table
}

// wantRate is the rate of a class by the chapter's words.
func wantRate(t [][]int, class int) [3]*big.Rat {
	row, column := int64(0), int64(0)
	for other := range t {
		row += int64(t[class][other])
		column += int64(t[other][class])
	}
	precise, recall := over(int64(t[class][class]), column), over(int64(t[class][class]), row)
	both, sum := new(big.Rat), new(big.Rat).Add(precise, recall)
	if sum.Sign() != 0 {
		both.Mul(precise, recall)
		both.Add(both, both)
		both.Quo(both, sum)
	}
	return [3]*big.Rat{precise, recall, both}
}

// holdRates holds Rates of t against the chapter's words.
func holdRates(t *testing.T, table [][]int) {
	t.Helper()
	got, e := Rates(table)
	if e != api.OK || len(got) != len(table) {
		t.Fatal(table, got, e)
	}
	for class, r := range got {
		want := wantRate(table, class)
		if !holds(r.Precise, want[0]) || !holds(r.Recall, want[1]) || !holds(r.Both, want[2]) {
			t.Fatal(table, class, r.Precise.Text(), r.Recall.Text(), r.Both.Text(), want)
		}
	}
}

// 9.1: Rates, of tables of any size; each 0 where it would be by 0.
func TestRates(t *testing.T) {
	c := chance(5)
	for many := 1; many < 20; many++ {
		for range 20 {
			holdRates(t, tableOf(c, many))
		}
	}
	holdRates(t, tableOf(c, 60))
	holdRates(t, [][]int{{0}})
	holdRates(t, [][]int{{7}})
	holdRates(t, [][]int{{0, 0}, {3, 0}})
	holdRates(t, [][]int{{0, 4}, {0, 0}})
	holdRates(t, [][]int{{0, 1}, {1, 0}})
	holdRates(t, [][]int{{most}})
	holdRates(t, [][]int{{most - 2, 1}, {0, 1}})
	holdRates(t, [][]int{{1, most - 1}, {0, 0}})
}

// 9.1: Rates of a table that is known.
func TestRatesOfOne(t *testing.T) {
	got, e := Rates([][]int{{2, 0, 1}, {1, 1, 0}, {0, 0, 0}})
	if e != api.OK || len(got) != 3 {
		t.Fatal(got, e)
	}
	for class, want := range [][3]string{{"2/3", "2/3", "2/3"}, {"1", "1/2", "2/3"}, {"0", "0", "0"}} {
		r := got[class]
		if r.Precise.Text() != want[0] || r.Recall.Text() != want[1] || r.Both.Text() != want[2] {
			t.Error(class, r.Precise.Text(), r.Recall.Text(), r.Both.Text())
		}
	}
}

// 9.1: Rates' errors: a shape ahead of a number; no sum goes round.
func TestRatesRefused(t *testing.T) {
	for i, x := range []struct {
		table [][]int
		want  api.Errno
	}{
		{nil, api.ErrShape},
		{[][]int{{}}, api.ErrShape},
		{[][]int{{}, {}}, api.ErrShape},
		{[][]int{{1, 2}}, api.ErrShape},
		{[][]int{{1}, {2}}, api.ErrShape},
		{[][]int{{1, 2}, {3}}, api.ErrShape},
		{[][]int{{1}, {2, 3}}, api.ErrShape},
		{[][]int{{1, 2}, {3, 4, 5}}, api.ErrShape},
		{[][]int{{1, 2}, nil}, api.ErrShape},
		{[][]int{{-1, 2}, {3}}, api.ErrShape},
		{[][]int{{math.MaxInt, 2}, {3, 4}, {5, 6}}, api.ErrShape},
		{[][]int{{-1}}, api.ErrArg},
		{[][]int{{math.MinInt}}, api.ErrArg},
		{[][]int{{5, 5}, {5, -1}}, api.ErrArg},
		{[][]int{{5, -1}, {5, 5}}, api.ErrArg},
		{[][]int{{most, -1}, {1, 0}}, api.ErrArg},
		{[][]int{{most + 1}}, api.ErrArg},
		{[][]int{{math.MaxInt}}, api.ErrArg},
		{[][]int{{most, 0}, {0, 1}}, api.ErrArg},
		{[][]int{{0, 1}, {0, most}}, api.ErrArg},
		{[][]int{{most/2 + 1, 0}, {0, most/2 + 1}}, api.ErrArg},
		{[][]int{{math.MaxInt, math.MaxInt}, {2, 0}}, api.ErrArg},
		{[][]int{{math.MaxInt, 1}, {math.MaxInt, 1}}, api.ErrArg},
	} {
		if got, e := Rates(x.table); e != x.want || len(got) != 0 {
			t.Error(i, x.table, got, e)
		}
	}
}

// 9.1: the rates of a Table; the recalls, each as often as its class is, are Right.
func TestRatesOfTable(t *testing.T) {
	c := chance(6)
	for range 60 {
		many, n := 1+c.IntN(api.MaxClasses), 1+c.IntN(90)
		want, got := classes(c, n, many), classes(c, n, many)
		table, _ := Table(want, got, many)
		rates, e := Rates(table)
		if e != api.OK {
			t.Fatal(e)
		}
		sum := new(big.Rat)
		for class, r := range rates {
			often := int64(0)
			for _, w := range want {
				if w == class {
					often++
				}
			}
			sum.Add(sum, new(big.Rat).Mul(toBig(r.Recall), over(often, int64(n))))
		}
		if right, _ := Right(want, got); !holds(right, sum) {
			t.Error(want, got, right.Text(), sum)
		}
	}
}
