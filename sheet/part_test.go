package sheet

import (
	"math"
	"slices"
	"strings"
	"testing"

	"abaculus/api"
	"abaculus/frac"
)

// grid is the texts of t's columns, and of its cells row by row.
func grid(t *testing.T, s Sheet) [][]string {
	t.Helper()
	text, e := Text(s)
	if e != api.OK {
		t.Fatal(e, dump(s))
	}
	var all [][]string
	for line := range strings.Lines(text) {
		all = append(all, strings.Split(strings.TrimSuffix(line, "\n"), ","))
	}
	return all
}

// checkPart fails, unless got has these columns and cells, and memory of its own.
func checkPart(t *testing.T, got Sheet, e api.Errno, want [][]string, from ...Sheet) {
	t.Helper()
	if e != api.OK || !slices.EqualFunc(grid(t, got), want, slices.Equal) {
		t.Fatal(e, dump(got), want)
	}
	if len(got.Rows) < 10 {
		checkApart(t, append(from, got)...)
	}
}

// checkNoPart fails, unless there is that error, and nothing beside it.
func checkNoPart(t *testing.T, got Sheet, e, want api.Errno) {
	t.Helper()
	if e != want || !isNone(got) {
		t.Error(e, "not", want, dump(got))
	}
}

// 6.3: Take, of rows by chance, some of them twice.
func TestTake(t *testing.T) {
	c := chance(4)
	for range 1500 {
		s := randomSheet(c)
		was, texts := dump(s), grid(t, s)
		want, rows := texts[:1:1], []int(nil)
		for range c.IntN(9) {
			if len(s.Rows) > 0 {
				row := c.IntN(len(s.Rows))
				rows, want = append(rows, row), append(want, texts[row+1])
			}
		}
		told := slices.Clone(rows)
		got, e := Take(s, rows)
		checkPart(t, got, e, want, s)
		if dump(s) != was || !slices.Equal(rows, told) {
			t.Fatal("changed", was)
		}
	}
}

// 6.3: Take's errors, and how many rows it takes.
func TestTakeAtTheEdges(t *testing.T) {
	s := read(t, "x:number\n1\n2\n3\n")
	for _, c := range []struct {
		rows []int
		want api.Errno
	}{
		{[]int{3}, api.ErrArg},
		{[]int{-1}, api.ErrArg},
		{[]int{0, 1, math.MaxInt}, api.ErrArg},
		{[]int{2, math.MinInt, 0}, api.ErrArg},
		{make([]int, api.MaxRows+1), api.ErrLong},
		{append(make([]int, api.MaxRows+1), 3), api.ErrArg},
	} {
		got, e := Take(s, c.rows)
		checkNoPart(t, got, e, c.want)
	}
	got, e := Take(s, make([]int, api.MaxRows))
	checkPart(t, got, e, append([][]string{{"x:number"}}, slices.Repeat([][]string{{"1"}}, api.MaxRows)...))
	got, e = Take(s, nil)
	checkPart(t, got, e, [][]string{{"x:number"}})
	got, e = Take(read(t, "x:number"), []int{0})
	checkNoPart(t, got, e, api.ErrArg)
}

// 6.3: Without, of each column.
func TestWithout(t *testing.T) {
	c := chance(5)
	for range 1500 {
		s := randomSheet(c)
		was := dump(s)
		for col := range s.Cols {
			got, e := Without(s, col)
			if len(s.Cols) == 1 {
				checkNoPart(t, got, e, api.ErrArg)
				continue
			}
			var want [][]string
			for _, line := range grid(t, s) {
				want = append(want, slices.Delete(line, col, col+1))
			}
			checkPart(t, got, e, want, s)
		}
		for _, col := range []int{-1, len(s.Cols), math.MaxInt, math.MinInt} {
			got, e := Without(s, col)
			checkNoPart(t, got, e, api.ErrArg)
		}
		if dump(s) != was {
			t.Fatal("changed", was)
		}
	}
}

// 6.3: Add, of a sheet and others with its columns.
func TestAdd(t *testing.T) {
	c := chance(6)
	for range 1500 {
		s := randomSheet(c)
		var rows []int
		for row := range s.Rows {
			if c.IntN(3) > 0 {
				rows = append(rows, row)
			}
		}
		u, _ := Take(s, rows)
		was, other := dump(s), dump(u)
		got, e := Add(s, u)
		checkPart(t, got, e, append(grid(t, s), grid(t, u)[1:]...), s, u)
		got, e = Add(u, s)
		checkPart(t, got, e, append(grid(t, u), grid(t, s)[1:]...), s, u)
		if got, e = Add(s, s); e != api.OK || len(got.Rows) != 2*len(s.Rows) || dump(s) != was || dump(u) != other {
			t.Fatal("to itself", e, was)
		}
	}
}

// 6.3: Add of columns that are not alike, in whichever way.
func TestAddOfOtherColumns(t *testing.T) {
	s := read(t, "x:number,k:choice(a|b)\n1,a\n")
	for _, text := range []string{
		"x:number", "k:choice(a|b)", "k:choice(a|b),x:number", "x:number,k:choice(b|a)", "x:number,k:choice(a)",
		"x:number,k:choice(a|b|c)", "x:number,k:choice(a|B)", "x:number,K:choice(a|b)", "y:number,k:choice(a|b)",
		"x:choice(a),k:choice(a|b)", "x:number,k:number", "x:number,k:choice(a|b),z:number",
	} {
		for _, rows := range []int{0, 1, api.MaxRows} {
			u := read(t, text)
			u.Rows = slices.Repeat([][]Cell{make([]Cell, len(u.Cols))}, rows)
			got, e := Add(s, u)
			checkNoPart(t, got, e, api.ErrKind)
			got, e = Add(u, s)
			checkNoPart(t, got, e, api.ErrKind)
		}
	}
}

// 6.3: Add's errors, in their order, and how many rows it takes.
func TestAddAtTheEdges(t *testing.T) {
	some := func(n int) Sheet { return read(t, "x:number\n"+strings.Repeat("1\n", n)) }
	for _, n := range []int{0, 1, 150, api.MaxRows - 1, api.MaxRows} {
		got, e := Add(some(n), some(api.MaxRows-n))
		if e != api.OK || len(got.Rows) != api.MaxRows {
			t.Error(n, e)
		}
		if n > 0 {
			got, e = Add(some(n), some(api.MaxRows-n+1))
			checkNoPart(t, got, e, api.ErrLong)
		}
	}
	got, e := Add(some(api.MaxRows), some(api.MaxRows))
	checkNoPart(t, got, e, api.ErrLong)
	noName, noKind := Sheet{Cols: []Col{{Kind: Number}}}, Sheet{Cols: []Col{{Name: "x"}}}
	got, e = Add(noName, noKind)
	checkNoPart(t, got, e, api.ErrName)
	got, e = Add(noKind, noName)
	checkNoPart(t, got, e, api.ErrKind)
	got, e = Add(read(t, "y:number"), noName)
	checkNoPart(t, got, e, api.ErrName)
	if got, e := Add(some(1), Sheet{Cols: []Col{{"x", Number, []string{}}}}); e != api.OK || len(got.Rows) != 1 {
		t.Error("no words and no list of them", e)
	}
}

// errorOfKind is what is to be told of that column, asked as one of that kind.
func errorOfKind(s Sheet, col, kind int) api.Errno {
	if s.Cols[col].Kind != kind {
		return api.ErrKind
	}
	for _, row := range s.Rows {
		if row[col].Lacks {
			return api.ErrLacks
		}
	}
	return api.OK
}

// 6.3: Numbers and Choices, of each column.
func TestColumnsOfCells(t *testing.T) {
	c := chance(7)
	told := map[api.Errno]int{}
	for range 1500 {
		s := randomSheet(c)
		was := dump(s)
		for col := range s.Cols {
			var words []int
			var numbers []frac.Q
			for _, row := range s.Rows {
				words, numbers = append(words, row[col].Word), append(numbers, row[col].Q)
			}
			asNumbers, e := Numbers(s, col)
			if e != errorOfKind(s, col, Number) || e == api.OK && !frac.Same(asNumbers, numbers) || e != api.OK && asNumbers != nil {
				t.Fatal(col, e, asNumbers, was)
			}
			told[e]++
			asChoices, e := Choices(s, col)
			if e != errorOfKind(s, col, Choice) || e == api.OK && !slices.Equal(asChoices, words) || e != api.OK && asChoices != nil {
				t.Fatal(col, e, asChoices, was)
			}
			told[e]++
		}
		if dump(s) != was {
			t.Fatal("changed", was)
		}
	}
	for _, e := range []api.Errno{api.OK, api.ErrKind, api.ErrLacks} {
		if told[e] < 100 {
			t.Error(e, "is told too seldom", told[e])
		}
	}
}

// 6.3: the errors of Numbers and Choices, in their order.
func TestColumnsOfCellsAtTheEdges(t *testing.T) {
	s := read(t, "x:number,k:choice(a|b),y:number,m:choice(a)\n?,?,1,a\n2,b,-1/2,a\n")
	for col, want := range map[int][2]api.Errno{
		-1:           {api.ErrArg, api.ErrArg},
		4:            {api.ErrArg, api.ErrArg},
		math.MaxInt:  {api.ErrArg, api.ErrArg},
		math.MinInt:  {api.ErrArg, api.ErrArg},
		0:            {api.ErrLacks, api.ErrKind},
		1:            {api.ErrKind, api.ErrLacks},
		2:            {api.OK, api.ErrKind},
		3:            {api.ErrKind, api.OK},
		api.MaxCols:  {api.ErrArg, api.ErrArg},
		-api.MaxCols: {api.ErrArg, api.ErrArg},
	} {
		if l, e := Numbers(s, col); e != want[0] || e != api.OK && l != nil {
			t.Error("numbers", col, e, l)
		}
		if l, e := Choices(s, col); e != want[1] || e != api.OK && l != nil {
			t.Error("choices", col, e, l)
		}
	}
	none := read(t, "x:number,k:choice(a)")
	if l, e := Numbers(none, 0); len(l) != 0 || e != api.OK {
		t.Error("of no rows", l, e)
	}
	if l, e := Choices(none, 1); len(l) != 0 || e != api.OK {
		t.Error("of no rows", l, e)
	}
}
