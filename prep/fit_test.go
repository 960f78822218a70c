package prep

import (
	"fmt"
	"math"
	"math/big"
	"math/rand/v2"
	"slices"
	"strings"
	"testing"

	"abaculus/api"
	"abaculus/frac"
	"abaculus/sheet"
)

// rat is q as a number of Go's library.
func rat(q frac.Q) *big.Rat {
	r, _ := new(big.Rat).SetString(q.Text())
	return r
}

// meanOf is the mean of x.
func meanOf(x []*big.Rat) *big.Rat {
	sum := new(big.Rat)
	for _, a := range x {
		sum.Add(sum, a)
	}
	return sum.Quo(sum, big.NewRat(int64(len(x)), 1))
}

// numbersOf is the use of a column of numbers, nil where one lacks, as the chapter words it.
func numbersOf(col int, x []*big.Rat, how int) string {
	told := slices.DeleteFunc(slices.Clone(x), func(a *big.Rat) bool { return a == nil })
	fill := meanOf(told)
	for i, a := range x {
		if a == nil {
			x[i] = fill
		}
	}
	shift, by := new(big.Rat), big.NewRat(1, 1)
	switch how {
	case 1:
		shift = slices.MinFunc(x, (*big.Rat).Cmp)
		by = new(big.Rat).Sub(slices.MaxFunc(x, (*big.Rat).Cmp), shift)
	case 2:
		shift = meanOf(x)
		var far []*big.Rat
		for _, a := range x {
			d := new(big.Rat).Sub(a, shift)
			far = append(far, d.Abs(d))
		}
		by = meanOf(far)
	}
	if by.Sign() == 0 {
		by = big.NewRat(1, 1)
	}
	return fmt.Sprintf("%d 1 0 %s %s %s", col, fill.RatString(), shift.RatString(), by.RatString())
}

// wordsOf is the use of a column of words, as the chapter words it; -1 is one that lacks.
func wordsOf(col, many int, words []int) string {
	best, most := 0, 0
	for w := range many {
		n := 0
		for _, x := range words {
			if x == w {
				n++
			}
		}
		if n > most {
			best, most = w, n
		}
	}
	return fmt.Sprintf("%d %d %d 0 0 0", col, many, best)
}

// fitOf is the uses that Fit is to tell, or its error, as the chapter words it;
// t may be, cols are rising and some, how is one of the ways.
func fitOf(t sheet.Sheet, cols []int, how int) ([]string, api.Errno) {
	width := 0
	for _, col := range cols {
		width += max(1, len(t.Cols[col].Words))
	}
	switch {
	case len(t.Rows) == 0:
		return nil, api.ErrShape
	case width > 20:
		return nil, api.ErrLong
	}
	var uses []string
	for _, col := range cols {
		var x []*big.Rat
		var words []int
		told := false
		for _, row := range t.Rows {
			if row[col].Lacks {
				x, words = append(x, nil), append(words, -1)
				continue
			}
			told = true
			x, words = append(x, rat(row[col].Q)), append(words, row[col].Word)
		}
		switch {
		case !told:
			return nil, api.ErrLacks
		case t.Cols[col].Kind == sheet.Number:
			uses = append(uses, numbersOf(col, x, how))
		default:
			uses = append(uses, wordsOf(col, len(t.Cols[col].Words), words))
		}
	}
	return uses, api.OK
}

// randomCols is some of the places below n, rising.
func randomCols(c *rand.Rand, n int) []int {
	cols := []int{c.IntN(n)}
	for i := range n {
		if c.IntN(3) > 0 && i > cols[len(cols)-1] {
			cols = append(cols, i)
		}
	}
	return cols
}

// 7.2: Fit of sheets by chance, by each way, against the chapter's words.
func TestFit(t *testing.T) {
	c := chance(3)
	told := map[api.Errno]int{}
	for range 6000 {
		s := randomSheet(c)
		cols, how := randomCols(c, len(s.Cols)), c.IntN(3)
		was, text := slices.Clone(cols), sheetText(t, s)
		want, e := fitOf(s, cols, how)
		told[e]++
		p, got := Fit(s, cols, how)
		if got != e || e != api.OK && !isNone(p) {
			t.Fatal(got, e, text, cols, dump(p))
		}
		if sheetText(t, s) != text || !slices.Equal(cols, was) {
			t.Fatal("changed", text)
		}
		if e != api.OK {
			continue
		}
		if uses := strings.Split(dump(p), "\n")[1:]; !slices.Equal(uses, want) || !sameCols(p.Cols, s.Cols) || Check(p) != api.OK {
			t.Fatal(how, text, uses, want)
		}
	}
	for _, e := range []api.Errno{api.OK, api.ErrShape, api.ErrLacks} {
		if told[e] < 100 {
			t.Error(e, "is told too seldom", told[e])
		}
	}
}

// sheetText is the text of s.
func sheetText(t *testing.T, s sheet.Sheet) string {
	t.Helper()
	text, e := sheet.Text(s)
	if e != api.OK {
		t.Fatal(e)
	}
	return text
}

// 7.2: the document's example, and columns whose By would be 0.
func TestFitOfExamples(t *testing.T) {
	for _, c := range []struct {
		text string
		how  int
		want string
	}{
		{"x:number\n2\n4\n?\n", Range, "0 1 0 3 2 2"},
		{"x:number\n2\n4\n?\n", Plain, "0 1 0 3 0 1"},
		{"x:number\n2\n4\n?\n", Spread, "0 1 0 3 3 2/3"},
		{"x:number\n5\n?\n5\n", Plain, "0 1 0 5 0 1"},
		{"x:number\n5\n?\n5\n", Range, "0 1 0 5 5 1"},
		{"x:number\n5\n?\n5\n", Spread, "0 1 0 5 5 1"},
		{"x:number\n-1/2\n", Range, "0 1 0 -1/2 -1/2 1"},
		{"x:number\n0\n0\n0\n8\n", Spread, "0 1 0 2 2 3"},
		{"x:number\n0\n-8\n0\n0\n", Spread, "0 1 0 -2 -2 3"},
		{"k:choice(a|b|c)\nc\nb\n?\nb\nc\n", Range, "0 3 1 0 0 0"},
		{"k:choice(a|b|c)\n?\n?\nc\n", Plain, "0 3 2 0 0 0"},
		{"k:choice(a)\na\n", Spread, "0 1 0 0 0 0"},
	} {
		p, e := Fit(read(t, c.text), []int{0}, c.how)
		if e != api.OK || len(p.Uses) != 1 || useText(p.Uses[0]) != c.want {
			t.Error(c.text, c.how, e, dump(p))
		}
	}
}

// 7.2: Fit's errors, each ahead of all that the chapter names behind it.
func TestFitRefused(t *testing.T) {
	wide := choiceOf("k", 12)
	rowsOf := func(n int, row ...sheet.Cell) [][]sheet.Cell { return slices.Repeat([][]sheet.Cell{row}, n) }
	lacks := sheet.Cell{Lacks: true}
	broad := []sheet.Col{wide, choiceOf("m", 12)}
	x, y := sheet.Col{Name: "x", Kind: sheet.Number}, sheet.Col{Name: "y", Kind: sheet.Number}
	two := []sheet.Col{x, y}
	good := sheet.Sheet{Cols: two, Rows: rowsOf(2, sheet.Cell{}, lacks)}
	for i, c := range []struct {
		s    sheet.Sheet
		cols []int
		how  int
		want api.Errno
	}{
		{sheet.Sheet{Cols: []sheet.Col{x, x}}, []int{5}, 7, api.ErrIs},
		{sheet.Sheet{Cols: two, Rows: rowsOf(1, lacks)}, nil, 7, api.ErrShape},
		{sheet.Sheet{Cols: two, Rows: rowsOf(1, lacks, sheet.Cell{Word: 1})}, nil, 7, api.ErrArg},
		{sheet.Sheet{Cols: two, Rows: rowsOf(301, lacks, lacks)}, nil, 7, api.ErrLong},
		{good, nil, 3, api.ErrArg},
		{good, nil, -1, api.ErrArg},
		{good, nil, math.MaxInt, api.ErrArg},
		{good, nil, math.MinInt, api.ErrArg},
		{sheet.Sheet{Cols: two}, []int{1, 1}, Plain, api.ErrArg},
		{sheet.Sheet{Cols: two}, []int{1, 0}, Plain, api.ErrArg},
		{sheet.Sheet{Cols: two}, []int{0, 2}, Plain, api.ErrArg},
		{sheet.Sheet{Cols: two}, []int{-1, 0}, Plain, api.ErrArg},
		{sheet.Sheet{Cols: two}, []int{math.MinInt}, Plain, api.ErrArg},
		{sheet.Sheet{Cols: two}, []int{math.MaxInt}, Plain, api.ErrArg},
		{sheet.Sheet{Cols: two}, []int{0, 1}, Plain, api.ErrShape},
		{sheet.Sheet{Cols: broad}, []int{0, 1}, Range, api.ErrShape},
		{good, nil, Plain, api.ErrShape},
		{good, []int{}, Spread, api.ErrShape},
		{sheet.Sheet{Cols: broad, Rows: rowsOf(1, lacks, lacks)}, []int{0, 1}, Plain, api.ErrLong},
		{sheet.Sheet{Cols: broad, Rows: rowsOf(1, lacks, lacks)}, []int{0}, Plain, api.ErrLacks},
		{sheet.Sheet{Cols: broad, Rows: rowsOf(1, lacks, sheet.Cell{})}, []int{1}, Plain, api.OK},
		{good, []int{0, 1}, Spread, api.ErrLacks},
		{good, []int{1}, Spread, api.ErrLacks},
		{good, []int{0}, Spread, api.OK},
	} {
		p, e := Fit(c.s, c.cols, c.how)
		if e != c.want || isNone(p) != (e != api.OK) {
			t.Error(i, e, c.want, dump(p))
		}
	}
}

// 7.2: ErrLong where the width turns: 20 is the most.
func TestFitAtTheWidest(t *testing.T) {
	for n := range 13 {
		s := sheet.Sheet{Cols: []sheet.Col{choiceOf("k", max(1, n)), choiceOf("m", 12)}, Rows: [][]sheet.Cell{{{}, {}}}}
		want := api.OK
		if max(1, n)+12 > 20 {
			want = api.ErrLong
		}
		if p, e := Fit(s, []int{0, 1}, Range); e != want || isNone(p) != (e != api.OK) {
			t.Error(n, e)
		}
	}
	p := many(20, 20)
	s := sheet.Sheet{Cols: p.Cols, Rows: [][]sheet.Cell{make([]sheet.Cell, 20)}}
	cols := make([]int, 20)
	for i := range cols {
		cols[i] = i
	}
	if got, e := Fit(s, cols, Plain); e != api.OK || !Same(got, p) {
		t.Error(e, dump(got))
	}
}

// 7.2: numbers of as many digits as may be told.
func TestFitOfLongNumbers(t *testing.T) {
	c := chance(4)
	text := "x:number\n"
	for range 30 {
		digits := []byte("1/")
		for range api.MaxDigits {
			digits = append(digits, byte('1'+c.IntN(9)))
		}
		text += string(digits) + "\n"
	}
	s := read(t, text+strings.Repeat("?\n", 270))
	for how := range 3 {
		want, _ := fitOf(s, []int{0}, how)
		if p, e := Fit(s, []int{0}, how); e != api.OK || useText(p.Uses[0]) != want[0] {
			t.Error(how, e)
		}
	}
}

// Rule 2: a plan has memory of its own.
func TestFitIsNew(t *testing.T) {
	s := read(t, "x:number,k:choice(a|b),m:choice(a|b|c)\n1,b,c\n?,?,a\n")
	cols := []int{0, 1, 2}
	p, _ := Fit(s, cols, Range)
	other, _ := Fit(s, cols, Range)
	was, text := dump(other), sheetText(t, s)
	for i := range p.Cols {
		words := p.Cols[i].Words
		clear(words[:cap(words)])
		if i == 1 && !slices.Equal(p.Cols[2].Words, []string{"a", "b", "c"}) {
			t.Error("words share memory")
		}
	}
	clear(p.Cols[:cap(p.Cols)])
	clear(p.Uses[:cap(p.Uses)])
	if dump(other) != was || sheetText(t, s) != text || !slices.Equal(cols, []int{0, 1, 2}) {
		t.Error("memory is shared")
	}
	for i := range s.Cols {
		clear(s.Cols[i].Words)
	}
	clear(s.Cols)
	clear(s.Rows)
	clear(cols)
	if dump(other) != was {
		t.Error("what was handed in is kept")
	}
}
