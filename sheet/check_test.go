package sheet

import (
	"math"
	"math/rand/v2"
	"regexp"
	"slices"
	"strings"
	"testing"

	"abaculus/api"
	"abaculus/frac"
)

// 6.1: a name's first byte, its others, and how many it has, through a column's name and its words.
func TestNames(t *testing.T) {
	form := regexp.MustCompile(`^[A-Za-z][A-Za-z0-9_]{0,19}$`)
	names := []string{"", "é", "aé", "a\n", "a\r", "a b", "?", "a-b"}
	for b := range 256 {
		c := string([]byte{byte(b)})
		names = append(names, c, "a"+c, c+"a", "ab"+c+"c", strings.Repeat("Z", api.MaxName-1)+c)
	}
	for n := range 3 * api.MaxName {
		names = append(names, strings.Repeat("z", n), "a"+strings.Repeat("_", n), strings.Repeat("9", n))
	}
	for _, s := range names {
		want := map[bool]api.Errno{false: api.ErrName}[form.MatchString(s)]
		for i, c := range []Col{
			{Name: s, Kind: Number},
			{Name: s, Kind: Choice, Words: []string{"w"}},
			{Name: "x", Kind: Choice, Words: []string{s}},
			{Name: "x", Kind: Choice, Words: []string{"w_w", s, "w_v"}},
		} {
			if got := Check(Sheet{Cols: []Col{c}}); got != want {
				t.Errorf("%q %d: %v", s, i, got)
			}
		}
	}
}

// 6.1: Right, of each kind of column with each kind of cell.
func TestRight(t *testing.T) {
	x, k := Col{"x", Number, nil}, Col{"k", Choice, []string{"a", "b", "c"}}
	for _, c := range []struct {
		cell            Cell
		inX, inK, inBad bool
	}{
		{Cell{}, true, true, false},
		{Cell{Lacks: true}, true, true, false},
		{Cell{Q: frac.Of(7)}, true, false, false},
		{Cell{Q: number("-1/99999999999999999999")}, true, false, false},
		{Cell{Word: 1}, false, true, false},
		{Cell{Word: 2}, false, true, false},
		{Cell{Word: 3}, false, false, false},
		{Cell{Word: -1}, false, false, false},
		{Cell{Word: math.MaxInt}, false, false, false},
		{Cell{Word: math.MinInt}, false, false, false},
		{Cell{Q: frac.Of(1), Word: 1}, false, false, false},
		{Cell{Lacks: true, Q: frac.Of(-1)}, false, false, false},
		{Cell{Lacks: true, Word: 1}, false, false, false},
		{Cell{Lacks: true, Word: -1}, false, false, false},
		{Cell{Lacks: true, Q: frac.Of(1), Word: 1}, false, false, false},
	} {
		for _, col := range []struct {
			c    Col
			want bool
		}{{x, c.inX}, {k, c.inK}, {Col{"y", 0, nil}, false}, {Col{"y", 3, k.Words}, false}, {Col{"y", -1, nil}, false}} {
			if got := Right(col.c, c.cell); got != col.want {
				t.Error(col.c, c.cell, got)
			}
		}
	}
	if Right(Col{"y", Choice, nil}, Cell{}) {
		t.Error("a word of no words")
	}
}

// ranked is an error with its place among those that Check may tell: the column
// or row, and within it the step.
type ranked struct {
	part, place, step int
	e                 api.Errno
}

// errorsOf is all errors of t, in whatever order.
func errorsOf(t Sheet) []ranked {
	var all []ranked
	note := func(bad bool, part, place, step int, e api.Errno) {
		if bad {
			all = append(all, ranked{part, place, step, e})
		}
	}
	name := regexp.MustCompile(`^[A-Za-z][A-Za-z0-9_]{0,19}$`)
	note(len(t.Cols) == 0 || len(t.Cols) > 20, 0, 0, 0, api.ErrShape)
	names := map[string]bool{}
	for i, c := range t.Cols {
		note(!name.MatchString(c.Name), 1, i, 0, api.ErrName)
		note(c.Kind != 1 && c.Kind != 2, 1, i, 1, api.ErrKind)
		note(c.Kind == 1 && len(c.Words) > 0, 1, i, 1, api.ErrKind)
		note(c.Kind == 2 && (len(c.Words) == 0 || len(c.Words) > 12), 1, i, 1, api.ErrKind)
		note(names[c.Name], 1, i, 2, api.ErrIs)
		names[c.Name] = true
		words := map[string]bool{}
		for _, w := range c.Words {
			note(!name.MatchString(w), 1, i, 0, api.ErrName)
			note(words[w], 1, i, 2, api.ErrIs)
			words[w] = true
		}
	}
	note(len(t.Rows) > 300, 2, 0, 0, api.ErrLong)
	for i, row := range t.Rows {
		note(len(row) != len(t.Cols), 3, i, 0, api.ErrShape)
		for j := range min(len(row), len(t.Cols)) {
			note(!Right(t.Cols[j], row[j]), 3, i, 1, api.ErrArg)
		}
	}
	return all
}

// errorOf is the first error of t.
func errorOf(t Sheet) api.Errno {
	all := append(errorsOf(t), ranked{9, 0, 0, api.OK})
	return slices.MinFunc(all, func(a, b ranked) int {
		return slices.Compare([]int{a.part, a.place, a.step}, []int{b.part, b.place, b.step})
	}).e
}

// spoil makes one thing of t wrong, perhaps.
func spoil(c *rand.Rand, t *Sheet) {
	if len(t.Cols) == 0 {
		return
	}
	col := &t.Cols[c.IntN(len(t.Cols))]
	switch c.IntN(14) {
	case 0:
		col.Name = pick(c, "", "1a", "a b", strings.Repeat("a", 21), "x:number")
	case 1:
		col.Words = append(col.Words, pick(c, "", "?", "a|b"))
	case 2:
		col.Words = append(col.Words, pick(c, "a", "new"))
	case 3:
		col.Kind = pick(c, 0, -1, 3, 1, 2)
	case 4:
		col.Words = nil
	case 5:
		col.Words = slices.Repeat([]string{"w"}, pick(c, 12, 13))
	case 6:
		col.Name = t.Cols[c.IntN(len(t.Cols))].Name
	case 7:
		col.Words = append(col.Words, col.Words...)
	case 8:
		t.Cols = slices.Repeat(t.Cols, pick(c, 20, 21))
	case 9:
		t.Cols = nil
	case 10:
		t.Rows = slices.Repeat(t.Rows, pick(c, 60, 301))
	case 11, 12, 13:
		spoilRow(c, t)
	}
}

// spoilRow makes one row of t wrong, perhaps.
func spoilRow(c *rand.Rand, t *Sheet) {
	if len(t.Rows) == 0 {
		return
	}
	row := &t.Rows[c.IntN(len(t.Rows))]
	switch c.IntN(4) {
	case 0:
		*row = (*row)[:c.IntN(len(*row)+1)]
	case 1:
		*row = append(slices.Clone(*row), Cell{})
	default:
		for i := range *row {
			if c.IntN(2) == 0 {
				(*row)[i] = pick(c, Cell{Word: 12}, Cell{Word: -1}, Cell{Q: frac.Of(3)}, Cell{Lacks: true, Word: 2})
			}
		}
	}
}

// 6.1: Check's first error, held against a list of all; 6.3: all that asks Check first tells the same.
func TestCheckOfSpoilt(t *testing.T) {
	c := chance(2)
	told := map[api.Errno]int{}
	good := read(t, "x:number\n1\n")
	for range 5000 {
		s := randomSheet(c)
		for range c.IntN(4) {
			spoil(c, &s)
		}
		want, was := errorOf(s), dump(s)
		told[want]++
		if got := Check(s); got != want {
			t.Fatal(got, want, was)
		}
		if want == api.OK {
			continue
		}
		text, e1 := Text(s)
		taken, e2 := Take(s, []int{pick(c, -1, 0)})
		less, e3 := Without(s, pick(c, -1, 0))
		more, e4 := Add(s, pick(c, good, Sheet{}))
		other, e5 := Add(good, s)
		numbers, e6 := Numbers(s, pick(c, -1, 0))
		choices, e7 := Choices(s, pick(c, -1, 0))
		for i, e := range []api.Errno{e1, e2, e3, e4, e5, e6, e7} {
			if e != want {
				t.Fatal(i, e, want, was)
			}
		}
		if text != "" || !isNone(taken) || !isNone(less) || !isNone(more) || !isNone(other) || numbers != nil || choices != nil || dump(s) != was {
			t.Fatal("beside an error", was)
		}
	}
	for _, e := range []api.Errno{api.OK, api.ErrShape, api.ErrName, api.ErrKind, api.ErrIs, api.ErrLong, api.ErrArg} {
		if told[e] < 50 {
			t.Error(e, "is told too seldom", told[e])
		}
	}
}

// 6.1: each of Check's errors ahead of the next one, at the bounds themselves.
func TestCheckAtTheEdges(t *testing.T) {
	var cols []Col
	for i := range api.MaxCols + 1 {
		cols = append(cols, Col{Name: strings.Repeat("n", i%api.MaxName+1), Kind: Number})
	}
	words := strings.Split("a b c d e f g h i j k l m", " ")
	choice := func(n int) []Col { return []Col{{"k", Choice, words[:n]}} }
	rows := func(n int) [][]Cell { return slices.Repeat([][]Cell{{{}}}, n) }
	for i, c := range []struct {
		s    Sheet
		want api.Errno
	}{
		{Sheet{Cols: cols[:api.MaxCols]}, api.OK},
		{Sheet{Cols: cols[:1]}, api.OK},
		{Sheet{Cols: cols}, api.ErrShape},
		{Sheet{Rows: rows(api.MaxRows + 1)}, api.ErrShape},
		{Sheet{Cols: choice(1)}, api.OK},
		{Sheet{Cols: choice(api.MaxWords)}, api.OK},
		{Sheet{Cols: choice(api.MaxWords + 1)}, api.ErrKind},
		{Sheet{Cols: choice(0)}, api.ErrKind},
		{Sheet{Cols: cols[:1], Rows: rows(api.MaxRows)}, api.OK},
		{Sheet{Cols: cols[:1], Rows: rows(api.MaxRows + 1)}, api.ErrLong},
		{Sheet{Cols: cols[:2], Rows: rows(api.MaxRows + 1)}, api.ErrLong},
		{Sheet{Cols: cols[:2], Rows: rows(api.MaxRows)}, api.ErrShape},
		{Sheet{Cols: []Col{{"k", 3, nil}}, Rows: rows(api.MaxRows + 1)}, api.ErrKind},
		{Sheet{Cols: []Col{{"k", Choice, []string{"k"}}, {"m", Choice, []string{"k"}}}}, api.OK},
		{Sheet{Cols: []Col{{"k", 3, nil}, {"1", Number, nil}}}, api.ErrKind},
		{Sheet{Cols: []Col{{"k", 3, []string{""}}, {"k", Number, nil}}}, api.ErrName},
		{Sheet{Cols: []Col{{"k", Number, nil}, {"k", Choice, nil}}}, api.ErrKind},
		{Sheet{Cols: []Col{{"k", Number, nil}, {"k", Choice, words[:2]}}}, api.ErrIs},
		{Sheet{Cols: []Col{{"k", Choice, slices.Repeat(words[:1], 13)}}}, api.ErrKind},
		{Sheet{Cols: []Col{{"k", Choice, []string{"a", "b", "a"}}, {"", Number, nil}}}, api.ErrIs},
		{Sheet{Cols: cols[:1], Rows: [][]Cell{{{Word: 1}}, {}}}, api.ErrArg},
		{Sheet{Cols: cols[:1], Rows: [][]Cell{{}, {{Word: 1}}}}, api.ErrShape},
		{Sheet{Cols: cols[:1], Rows: [][]Cell{{{Word: 1}, {}}}}, api.ErrShape},
		{Sheet{Cols: cols[:2], Rows: [][]Cell{{{}, {Word: 1}}}}, api.ErrArg},
	} {
		if got := Check(c.s); got != c.want || errorOf(c.s) != c.want {
			t.Error(i, got, c.want)
		}
	}
}
