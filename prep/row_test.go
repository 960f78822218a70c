package prep

import (
	"math/big"
	"math/rand/v2"
	"slices"
	"strings"
	"testing"

	"abaculus/api"
	"abaculus/frac"
	"abaculus/sheet"
)

// rowText is the numbers that p makes of cells, as the chapter words it.
func rowText(p Plan, cells []sheet.Cell) string {
	var all []string
	for _, u := range p.Uses {
		x := cells[u.Col]
		if p.Cols[u.Col].Kind == sheet.Number {
			a := rat(x.Q)
			if x.Lacks {
				a = rat(u.Fill)
			}
			a.Sub(a, rat(u.Shift))
			all = append(all, a.Quo(a, rat(u.By)).RatString())
			continue
		}
		word := x.Word
		if x.Lacks {
			word = u.Word
		}
		for w := range p.Cols[u.Col].Words {
			all = append(all, map[bool]string{true: "1", false: "0"}[w == word])
		}
	}
	return strings.Join(all, " ")
}

// 7.1, 7.3: Row and Apply of plans and sheets by chance, against the chapter's words.
func TestRows(t *testing.T) {
	c := chance(5)
	for range 4000 {
		s := randomSheet(c)
		p := randomPlan(c, s)
		was, text := dump(p), sheetText(t, s)
		rows, e := Apply(p, s)
		if e != api.OK || len(rows) != len(s.Rows) {
			t.Fatal(e, was, text)
		}
		for i, cells := range s.Rows {
			x, e := Row(p, cells)
			if want := rowText(p, cells); e != api.OK || texts(x) != want || texts(rows[i]) != want || len(x) != Width(p) {
				t.Fatal(e, texts(x), texts(rows[i]), want, was)
			}
		}
		if dump(p) != was || sheetText(t, s) != text {
			t.Fatal("changed", was, text)
		}
	}
}

// 7.4: Back of Row tells the cells that are used, those that lacked filled.
func TestThereAndBack(t *testing.T) {
	c := chance(6)
	for range 4000 {
		s := randomSheet(c)
		p := randomPlan(c, s)
		for _, row := range s.Rows {
			want := slices.Repeat([]sheet.Cell{{Lacks: true}}, len(row))
			for _, u := range p.Uses {
				want[u.Col] = row[u.Col]
				if row[u.Col].Lacks {
					want[u.Col] = sheet.Cell{Q: u.Fill, Word: u.Word}
				}
			}
			x, _ := Row(p, row)
			was := texts(x)
			cells, e := Back(p, x)
			if e != api.OK || cellTexts(cells) != cellTexts(want) || texts(x) != was {
				t.Fatal(e, dump(p), cellTexts(cells), cellTexts(want))
			}
			if again, e := Row(p, cells); e != api.OK || texts(again) != was {
				t.Fatal(e, was, texts(again))
			}
		}
	}
}

// 7.3: Back of numbers that no Row told, and not as many as it takes.
func TestBack(t *testing.T) {
	p := Plan{
		[]sheet.Col{{Name: "u", Kind: sheet.Number}, choiceOf("k", 3), {Name: "x", Kind: sheet.Number}, choiceOf("v", 2)},
		[]Use{{Col: 1, Width: 3, Word: 2}, {Col: 2, Width: 1, Fill: frac.Of(9), Shift: number("-1/3"), By: number("5/2")}},
	}
	for _, c := range []struct {
		x     string
		word  int
		value string
	}{
		{"0 0 0 0", 0, "-1/3"},
		{"1 1 1 2", 0, "14/3"},
		{"0 1 1 2/15", 1, "0"},
		{"-3 -2 -1 -2", 2, "-16/3"},
		{"-1/2 -1/2 -1/2 -1", 0, "-17/6"},
		{"1/2 1/3 2/3 4", 2, "29/3"},
		{"7 99 98 1/2", 1, "11/12"},
		{"0 1/999999999999 0 0", 1, "-1/3"},
	} {
		var x []frac.Q
		for s := range strings.FieldsSeq(c.x) {
			x = append(x, number(s))
		}
		want := []sheet.Cell{{Lacks: true}, {Word: c.word}, {Q: number(c.value)}, {Lacks: true}}
		if cells, e := Back(p, x); e != api.OK || cellTexts(cells) != cellTexts(want) {
			t.Error(c.x, e, cellTexts(cells))
		}
	}
	for n := range 9 {
		if cells, e := Back(p, make([]frac.Q, n)); n != 4 && (e != api.ErrShape || cells != nil) {
			t.Error(n, e, cells)
		}
	}
	if cells, e := Back(p, nil); e != api.ErrShape || cells != nil {
		t.Error(e, cells)
	}
}

// 7.3: Row's errors, in their order: of columns that are not used, too.
func TestRowRefused(t *testing.T) {
	p := Plan{[]sheet.Col{{Name: "x", Kind: sheet.Number}, choiceOf("k", 2)}, []Use{{Col: 0, Width: 1, By: frac.Of(2)}}}
	bad := p
	bad.Uses = nil
	wrong := sheet.Cell{Word: 2}
	for i, c := range []struct {
		p     Plan
		cells []sheet.Cell
		want  api.Errno
	}{
		{p, []sheet.Cell{{}, {}}, api.OK},
		{p, []sheet.Cell{{Q: frac.Of(3)}, {Lacks: true}}, api.OK},
		{p, nil, api.ErrShape},
		{p, []sheet.Cell{{}}, api.ErrShape},
		{p, []sheet.Cell{wrong}, api.ErrShape},
		{p, []sheet.Cell{wrong, {}, {}}, api.ErrShape},
		{p, []sheet.Cell{{Word: 1}, {}}, api.ErrArg},
		{p, []sheet.Cell{{}, wrong}, api.ErrArg},
		{p, []sheet.Cell{{}, {Word: -1}}, api.ErrArg},
		{p, []sheet.Cell{{}, {Q: frac.Of(1)}}, api.ErrArg},
		{p, []sheet.Cell{{Lacks: true, Q: frac.Of(1)}, {}}, api.ErrArg},
		{p, []sheet.Cell{{}, {Lacks: true, Word: 1}}, api.ErrArg},
		{bad, []sheet.Cell{{}, wrong, {}}, api.ErrShape},
		{Plan{Cols: []sheet.Col{{Name: "x"}}}, []sheet.Cell{{}, wrong}, api.ErrKind},
	} {
		x, e := Row(c.p, c.cells)
		if e != c.want || (x == nil) != (e != api.OK) {
			t.Error(i, e, c.want)
		}
	}
}

// 7.3: Apply's errors, in their order, and columns that are not alike in whichever way.
func TestApplyRefused(t *testing.T) {
	s := read(t, "x:number,k:choice(a|b)\n1,a\n")
	p, _ := Fit(s, []int{1}, Plain)
	spoilt := p
	spoilt.Uses = []Use{{Col: 1, Width: 2, Word: 2}}
	noCell := sheet.Sheet{Cols: s.Cols, Rows: [][]sheet.Cell{{{}}}}
	noName := sheet.Sheet{Cols: []sheet.Col{{Name: "", Kind: sheet.Number}}}
	for i, c := range []struct {
		p    Plan
		s    sheet.Sheet
		want api.Errno
	}{
		{p, s, api.OK},
		{p, sheet.Sheet{}, api.ErrShape},
		{p, noName, api.ErrName},
		{p, noCell, api.ErrShape},
		{p, sheet.Sheet{Cols: s.Cols, Rows: [][]sheet.Cell{{{}, {Word: 2}}}}, api.ErrArg},
		{p, sheet.Sheet{Cols: s.Cols, Rows: slices.Repeat(s.Rows, 301)}, api.ErrLong},
		{p, sheet.Sheet{Cols: s.Cols, Rows: slices.Repeat(s.Rows, 300)}, api.OK},
		{spoilt, noName, api.ErrArg},
		{spoilt, read(t, "y:number"), api.ErrArg},
		{Plan{}, noName, api.ErrShape},
	} {
		rows, e := Apply(c.p, c.s)
		if e != c.want || (rows == nil) != (e != api.OK) {
			t.Error(i, e, c.want)
		}
	}
	for _, text := range []string{
		"x:number", "k:choice(a|b)", "k:choice(a|b),x:number", "x:number,k:choice(b|a)", "x:number,k:choice(a)", "x:number,k:number",
		"x:number,k:choice(a|b|c)", "x:number,k:choice(a|B)", "y:number,k:choice(a|b)", "x:choice(a),k:choice(a|b)", "x:number,k:choice(a|b),z:number",
	} {
		if rows, e := Apply(p, read(t, text)); e != api.ErrKind || rows != nil {
			t.Error(text, e)
		}
	}
	if rows, e := Apply(p, read(t, "x:number,k:choice(a|b)")); e != api.OK || len(rows) != 0 {
		t.Error("of no rows", e, lines(rows))
	}
}

// inUnits is s, each number of it times one above 0, and another one more.
func inUnits(c *rand.Rand, s sheet.Sheet) sheet.Sheet {
	turned, _ := sheet.Add(s, sheet.Sheet{Cols: s.Cols})
	for col, kind := range s.Cols {
		times, more := number(pick(c, "2", "1/3", "999999999999999999999", "7/5")), number(pick(c, "0", "-4", "1/7", "88888888888888888888"))
		for _, row := range turned.Rows {
			if kind.Kind == sheet.Number && !row[col].Lacks {
				row[col].Q = row[col].Q.Mul(times).Add(more)
			}
		}
	}
	return turned
}

// hasEven tells whether some column of numbers that is used has one number alone.
func hasEven(p Plan, s sheet.Sheet) bool {
	for _, u := range p.Uses {
		var seen []string
		for _, row := range s.Rows {
			if x := row[u.Col]; p.Cols[u.Col].Kind == sheet.Number && !x.Lacks {
				seen = append(seen, x.Q.Text())
			}
		}
		slices.Sort(seen)
		if len(slices.Compact(seen)) == 1 {
			return true
		}
	}
	return false
}

// 7.4, W1: numbers in other units have the same rows by Range and by Spread.
func TestOtherUnits(t *testing.T) {
	c := chance(7)
	even, uneven := 0, 0
	for range 3000 {
		s := randomSheet(c)
		other := inUnits(c, s)
		cols, how := randomCols(c, len(s.Cols)), pick(c, Range, Spread)
		p, e := Fit(s, cols, how)
		q, again := Fit(other, cols, how)
		if e != again {
			t.Fatal(e, again)
		}
		if e != api.OK {
			continue
		}
		if hasEven(p, s) {
			even++
		} else {
			uneven++
		}
		x, _ := Apply(p, s)
		y, _ := Apply(q, other)
		if lines(x) != lines(y) {
			t.Fatal(how, sheetText(t, s), lines(x), lines(y))
		}
	}
	if even < 100 || uneven < 100 {
		t.Error(even, uneven)
	}
}

// 7.2: by Range rows lie from 0 to 1; by Spread their mean is 0, and how far they are from it 1.
func TestMeasuredRows(t *testing.T) {
	c := chance(8)
	for range 2000 {
		s := randomSheet(c)
		for col, kind := range s.Cols {
			p, e := Fit(s, []int{col}, Range)
			q, _ := Fit(s, []int{col}, Spread)
			if e != api.OK || kind.Kind != sheet.Number || hasEven(p, s) {
				continue
			}
			rows, _ := Apply(p, s)
			spread, _ := Apply(q, s)
			var in, far []frac.Q
			sum := new(big.Rat)
			for i := range rows {
				in, far = append(in, rows[i][0]), append(far, spread[i][0].Abs())
				sum.Add(sum, rat(spread[i][0]))
			}
			in = frac.Sort(in)
			away, _ := frac.Mean(far)
			if in[0].Sign() != 0 || in[len(in)-1].Text() != "1" || sum.Sign() != 0 || away.Text() != "1" {
				t.Fatal(sheetText(t, s), lines(rows), lines(spread))
			}
		}
	}
}

// Rule 2: rows and cells are new memory, and no two rows share any.
func TestRowsAreNew(t *testing.T) {
	s := read(t, "x:number,k:choice(a|b),m:choice(a|b|c)\n1,b,c\n?,?,a\n-3,a,b\n")
	p, _ := Fit(s, []int{0, 1, 2}, Range)
	rows, _ := Apply(p, s)
	want, was := lines(rows), dump(p)
	for i := range rows {
		again, _ := Apply(p, s)
		x := again[i]
		for j := range x[:cap(x)] {
			x[:cap(x)][j] = frac.Of(-77)
		}
		for j := range again {
			if j != i && texts(again[j]) != texts(rows[j]) {
				t.Error("rows share memory", i, j)
			}
		}
		row, _ := Row(p, s.Rows[i])
		cells, _ := Back(p, row)
		clear(cells[:cap(cells)])
		clear(row[:cap(row)])
	}
	if lines(rows) != want || dump(p) != was || sheetText(t, s) != "x:number,k:choice(a|b),m:choice(a|b|c)\n1,b,c\n?,?,a\n-3,a,b\n" {
		t.Error("memory is shared")
	}
}
