package prep

import (
	"fmt"
	"math"
	"math/rand/v2"
	"regexp"
	"slices"
	"strings"
	"testing"

	"abaculus/api"
	"abaculus/frac"
	"abaculus/sheet"
)

// read is the sheet that s tells.
func read(t *testing.T, s string) sheet.Sheet {
	t.Helper()
	got, f := sheet.Parse(s)
	if f != (api.Fault{}) {
		t.Fatalf("%.60q: %v", s, f)
	}
	return got
}

// number is the fraction of that text.
func number(s string) frac.Q {
	q, ok := frac.Parse(s)
	if !ok {
		panic(s)
	}
	return q
}

// chance tells the same numbers in each run.
func chance(seed uint64) *rand.Rand {
	return rand.New(rand.NewPCG(seed, 7))
}

// pick is one of these by chance.
func pick[T any](c *rand.Rand, list ...T) T {
	return list[c.IntN(len(list))]
}

// texts is the text of each of x.
func texts(x []frac.Q) string {
	all := make([]string, len(x))
	for i, q := range x {
		all[i] = q.Text()
	}
	return strings.Join(all, " ")
}

// lines is the texts of each of rows.
func lines(rows [][]frac.Q) string {
	all := make([]string, len(rows))
	for i, x := range rows {
		all[i] = texts(x)
	}
	return strings.Join(all, "; ")
}

// cellText is all that x has.
func cellText(x sheet.Cell) string {
	return fmt.Sprintf("%v %s %d", x.Lacks, x.Q.Text(), x.Word)
}

// cellTexts is all that cells have.
func cellTexts(cells []sheet.Cell) string {
	all := make([]string, len(cells))
	for i, x := range cells {
		all[i] = cellText(x)
	}
	return strings.Join(all, "; ")
}

// useText is all that u has.
func useText(u Use) string {
	return fmt.Sprintf("%d %d %d %s %s %s", u.Col, u.Width, u.Word, u.Fill.Text(), u.Shift.Text(), u.By.Text())
}

// dump is all that p has.
func dump(p Plan) string {
	var b strings.Builder
	for _, c := range p.Cols {
		fmt.Fprintf(&b, "%q %d %q;", c.Name, c.Kind, append([]string{}, c.Words...))
	}
	for _, u := range p.Uses {
		b.WriteString("\n" + useText(u))
	}
	return b.String()
}

// isNone tells whether p is the zero value.
func isNone(p Plan) bool {
	return p.Cols == nil && p.Uses == nil
}

// copied is p in memory of its own.
func copied(p Plan) Plan {
	cols := slices.Clone(p.Cols)
	for i, c := range cols {
		cols[i].Words = slices.Clone(c.Words)
	}
	return Plan{cols, slices.Clone(p.Uses)}
}

// randomSheet is a sheet of a few columns and rows, whose numbers are often alike.
func randomSheet(c *rand.Rand) sheet.Sheet {
	var t sheet.Sheet
	for i := range 1 + c.IntN(4) {
		col := sheet.Col{Name: fmt.Sprintf("c%d", i), Kind: sheet.Number}
		if c.IntN(2) == 0 {
			col.Kind = sheet.Choice
			for j := range 1 + c.IntN(5) {
				col.Words = append(col.Words, strings.Repeat("w", j+1))
			}
		}
		t.Cols = append(t.Cols, col)
	}
	for range c.IntN(8) {
		var row []sheet.Cell
		for _, col := range t.Cols {
			row = append(row, randomCell(c, col))
		}
		t.Rows = append(t.Rows, row)
	}
	return t
}

// randomCell is a cell of col, which may lack.
func randomCell(c *rand.Rand, col sheet.Col) sheet.Cell {
	switch {
	case c.IntN(3) == 0:
		return sheet.Cell{Lacks: true}
	case col.Kind == sheet.Number:
		return sheet.Cell{Q: number(pick(c, "0", "7", "7", "-3", "1/2", "-22/7", "99999999999999999999/7"))}
	}
	return sheet.Cell{Word: c.IntN(len(col.Words))}
}

// randomPlan is a plan that may be of the columns of t, whatever its cells are.
func randomPlan(c *rand.Rand, t sheet.Sheet) Plan {
	p := copied(Plan{Cols: t.Cols})
	for i, col := range t.Cols {
		if c.IntN(3) == 0 && (len(p.Uses) > 0 || i+1 < len(t.Cols)) {
			continue
		}
		if col.Kind == sheet.Choice {
			p.Uses = append(p.Uses, Use{Col: i, Width: len(col.Words), Word: c.IntN(len(col.Words))})
			continue
		}
		fill, shift, by := pick(c, "0", "3", "-1/2"), pick(c, "0", "1", "-5/3"), pick(c, "1", "1/3", "12345678901234567890")
		p.Uses = append(p.Uses, Use{Col: i, Width: 1, Fill: number(fill), Shift: number(shift), By: number(by)})
	}
	return p
}

// ranked is an error and where the document names it: the part of it, the use.
type ranked struct {
	part, place int
	e           api.Errno
}

// errorsOf is all that is wrong with p, as chapters 6 and 7 word it.
func errorsOf(p Plan) []ranked {
	var all []ranked
	note := func(bad bool, part, place int, e api.Errno) {
		if bad {
			all = append(all, ranked{part, place, e})
		}
	}
	if e := sheet.Check(sheet.Sheet{Cols: p.Cols}); e != api.OK {
		all = append(all, ranked{0, 0, e})
	}
	note(len(p.Uses) == 0, 1, 0, api.ErrShape)
	sum, ahead := 0, -1
	for i, u := range p.Uses {
		sum += u.Width
		note(u.Col < 0 || u.Col >= len(p.Cols), 2, i, api.ErrArg)
		note(i > 0 && u.Col <= ahead, 2, i, api.ErrArg)
		ahead = u.Col
		if u.Col < 0 || u.Col >= len(p.Cols) {
			continue
		}
		if c := p.Cols[u.Col]; c.Kind == sheet.Number {
			note(u.Width != 1 || u.Word != 0 || u.By.Cmp(frac.Of(0)) <= 0, 2, i, api.ErrArg)
		} else {
			note(u.Width != len(c.Words) || u.Word < 0 || u.Word >= len(c.Words), 2, i, api.ErrArg)
			note(u.Fill.Text()+u.Shift.Text()+u.By.Text() != "000", 2, i, api.ErrArg)
		}
	}
	note(sum > 20, 3, 0, api.ErrLong)
	return all
}

// errorOf is the first of all that is wrong with p.
func errorOf(p Plan) api.Errno {
	all := append(errorsOf(p), ranked{9, 0, api.OK})
	return slices.MinFunc(all, func(a, b ranked) int {
		return slices.Compare([]int{a.part, a.place}, []int{b.part, b.place})
	}).e
}

// spoil turns one thing of p, which has columns; some turns leave it one that may be.
func spoil(c *rand.Rand, p *Plan) {
	if len(p.Uses) == 0 || len(p.Cols) == 0 {
		return
	}
	col, u := &p.Cols[c.IntN(len(p.Cols))], &p.Uses[c.IntN(len(p.Uses))]
	some := frac.Of(int64(c.IntN(3) - 1))
	switch c.IntN(16) {
	case 0:
		col.Name = pick(c, "", "1", "x y", p.Cols[0].Name)
	case 1:
		col.Kind = pick(c, 0, sheet.Number, sheet.Choice, 3)
	case 2:
		col.Words = append(col.Words, pick(c, "new", "?"))
	case 3:
		p.Cols = pick(c, nil, slices.Repeat(p.Cols, 21))
	case 4:
		p.Uses = nil
	case 5:
		p.Uses = append(p.Uses, *u)
	case 6:
		slices.Reverse(p.Uses)
	case 7:
		u.Col += pick(c, -1, 1)
	case 8:
		u.Col = pick(c, math.MinInt, -1, len(p.Cols), math.MaxInt)
	case 9:
		u.Width = pick(c, 0, 1, 2, -1, math.MaxInt)
	case 10:
		u.Word = pick(c, 0, 1, -1, len(col.Words), math.MaxInt, math.MinInt)
	case 11:
		u.Fill = some
	case 12:
		u.Shift = some
	default:
		u.By = some
	}
}

// 7.1: Check of plans that were spoilt, against all that is wrong with them; of one
// that may not be each call tells the same, and nothing beside it.
func TestCheckOfSpoilt(t *testing.T) {
	c := chance(1)
	told := map[api.Errno]int{}
	for range 20000 {
		s := randomSheet(c)
		p := randomPlan(c, s)
		for range c.IntN(3) {
			spoil(c, &p)
		}
		want, was := errorOf(p), dump(p)
		told[want]++
		if got := Check(p); got != want {
			t.Fatal(got, want, was)
		}
		Width(p)
		if !Same(p, p) {
			t.Fatal("not the same as itself", was)
		}
		if want != api.OK {
			x, e1 := Row(p, pick(c, nil, make([]sheet.Cell, len(p.Cols))))
			rows, e2 := Apply(p, pick(c, s, sheet.Sheet{}))
			cells, e3 := Back(p, make([]frac.Q, c.IntN(3)))
			if e1 != want || e2 != want || e3 != want || x != nil || rows != nil || cells != nil {
				t.Fatal(e1, e2, e3, want, was)
			}
		}
		if dump(p) != was {
			t.Fatal("changed", was)
		}
	}
	for _, e := range []api.Errno{api.OK, api.ErrShape, api.ErrArg, api.ErrName, api.ErrKind, api.ErrIs} {
		if told[e] < 100 {
			t.Error(e, "is told too seldom", told[e])
		}
	}
}

// many is n columns of numbers, and a use of each of the first used ones.
func many(n, used int) Plan {
	var p Plan
	for i := range n {
		p.Cols = append(p.Cols, sheet.Col{Name: fmt.Sprintf("n%d", i), Kind: sheet.Number})
	}
	for i := range used {
		p.Uses = append(p.Uses, Use{Col: i, Width: 1, By: frac.Of(1)})
	}
	return p
}

// choiceOf is a column of n words.
func choiceOf(name string, n int) sheet.Col {
	words := strings.Split("a b c d e f g h i j k l", " ")
	return sheet.Col{Name: name, Kind: sheet.Choice, Words: words[:n]}
}

// 7.1: Check where it turns: how wide a plan is, and which error comes first.
func TestCheckAtTheEdges(t *testing.T) {
	wide := func(a, b int) Plan {
		return Plan{[]sheet.Col{choiceOf("k", a), choiceOf("m", b)}, []Use{{Col: 0, Width: a}, {Col: 1, Width: b}}}
	}
	turned := func(p Plan, turn func(p *Plan)) Plan {
		turn(&p)
		return p
	}
	for i, c := range []struct {
		p    Plan
		want api.Errno
	}{
		{Plan{}, api.ErrShape},
		{many(1, 1), api.OK},
		{many(1, 0), api.ErrShape},
		{many(1, 2), api.ErrArg},
		{many(20, 20), api.OK},
		{many(21, 20), api.ErrShape},
		{wide(8, 12), api.OK},
		{wide(12, 8), api.OK},
		{wide(9, 12), api.ErrLong},
		{wide(12, 12), api.ErrLong},
		{turned(wide(12, 12), func(p *Plan) { p.Uses[1].Width = 11 }), api.ErrArg},
		{turned(wide(12, 12), func(p *Plan) { p.Uses[1].Word = 12 }), api.ErrArg},
		{turned(wide(12, 12), func(p *Plan) { p.Uses[1].Word = 11 }), api.ErrLong},
		{turned(wide(12, 12), func(p *Plan) { p.Cols[1].Name = "k" }), api.ErrIs},
		{turned(wide(12, 12), func(p *Plan) { p.Uses = p.Uses[1:] }), api.OK},
		{turned(wide(12, 12), func(p *Plan) { p.Uses[0].Width, p.Uses[1].Width = 10, 10 }), api.ErrArg},
		{turned(many(3, 3), func(p *Plan) { p.Uses[0].Col, p.Uses[1].Col = 1, 0 }), api.ErrArg},
		{turned(many(3, 3), func(p *Plan) { p.Uses = p.Uses[1:] }), api.OK},
		{turned(many(3, 3), func(p *Plan) { p.Uses, p.Cols[2].Kind = nil, 0 }), api.ErrKind},
		{turned(many(1, 1), func(p *Plan) { p.Uses[0].By = number("1/99999999999999999999") }), api.OK},
		{turned(many(1, 1), func(p *Plan) { p.Uses[0].By = number("-1/99999999999999999999") }), api.ErrArg},
	} {
		if got := Check(c.p); got != c.want || errorOf(c.p) != c.want {
			t.Error(i, got, c.want)
		}
	}
}

// 7.1: Width is the sum of the widths.
func TestWidth(t *testing.T) {
	if w := Width(Plan{}); w != 0 {
		t.Error(w)
	}
	if w := Width(many(5, 4)); w != 4 {
		t.Error(w)
	}
	c := chance(2)
	for range 300 {
		p := randomPlan(c, randomSheet(c))
		want := 0
		for _, u := range p.Uses {
			want += max(1, len(p.Cols[u.Col].Words))
		}
		if w := Width(p); w != want {
			t.Fatal(w, dump(p))
		}
	}
}

// unlike is plans of which no two are alike.
func unlike() []Plan {
	all := []Plan{{}, many(1, 0), many(2, 0), many(2, 1), many(2, 2), {Uses: many(1, 1).Uses}}
	for _, turn := range []func(p *Plan){
		func(p *Plan) { p.Cols[1].Name = "y" },
		func(p *Plan) { p.Cols[1].Kind = sheet.Choice },
		func(p *Plan) { p.Cols[1].Words = []string{"a"} },
		func(p *Plan) { p.Cols[1] = choiceOf("n1", 2) },
		func(p *Plan) { p.Cols[1] = choiceOf("n1", 3) },
		func(p *Plan) { p.Uses = p.Uses[1:] },
		func(p *Plan) { p.Uses[1].Col = 2 },
		func(p *Plan) { p.Uses[1].Width = 2 },
		func(p *Plan) { p.Uses[1].Word = 1 },
		func(p *Plan) { p.Uses[1].Fill = frac.Of(1) },
		func(p *Plan) { p.Uses[1].Shift = frac.Of(1) },
		func(p *Plan) { p.Uses[1].By = number("1/2") },
		func(p *Plan) { p.Uses[0].By = number("1/2") },
	} {
		p := many(2, 2)
		turn(&p)
		all = append(all, p)
	}
	return all
}

// 7.3: Same tells each plan from each other one; no list and an empty one are alike.
func TestSame(t *testing.T) {
	for i, a := range unlike() {
		for j, b := range unlike() {
			if Same(a, b) != (i == j) {
				t.Error(dump(a), "and", dump(b))
			}
		}
	}
	a, b := many(1, 1), many(1, 1)
	b.Cols[0].Words = []string{}
	b.Uses[0].By = number("7/7")
	if !Same(a, b) || !Same(Plan{}, Plan{[]sheet.Col{}, []Use{}}) {
		t.Error("unlike")
	}
}

// 7.1: the numbers of the ways, and the fields in their order.
func TestWays(t *testing.T) {
	if Plain != 0 || Range != 1 || Spread != 2 {
		t.Error(Plain, Range, Spread)
	}
	if form := regexp.MustCompile(`^\{Col:1 Width:2 Word:3 Fill:.*Shift:.*By:.*\}$`); !form.MatchString(fmt.Sprintf("%+v", Use{Col: 1, Width: 2, Word: 3})) {
		t.Error("fields")
	}
}
