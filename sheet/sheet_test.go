package sheet

import (
	"fmt"
	"math/rand/v2"
	"strings"
	"testing"
	"unsafe"

	"abaculus/api"
	"abaculus/frac"
)

// read is the sheet that s tells.
func read(t *testing.T, s string) Sheet {
	t.Helper()
	got, f := Parse(s)
	if f != (api.Fault{}) {
		t.Fatalf("%.60q: %v", s, f)
	}
	return got
}

// number is the fraction of that text.
func number(s string) frac.Q {
	q, _ := frac.Parse(s)
	return q
}

// dump is all that t has, field by field, whether it may be or not.
func dump(t Sheet) string {
	var b strings.Builder
	for _, c := range t.Cols {
		fmt.Fprintf(&b, "%q %d %q;", c.Name, c.Kind, append([]string{}, c.Words...))
	}
	for _, row := range t.Rows {
		b.WriteString("\n")
		for _, x := range row {
			fmt.Fprintf(&b, "%v %s %d;", x.Lacks, x.Q.Text(), x.Word)
		}
	}
	return b.String()
}

// span is the memory of a list, with all the room behind it.
type span struct{ from, to uintptr }

// spanOf is the memory of l.
func spanOf[T any](l []T) span {
	var one T
	from := uintptr(unsafe.Pointer(unsafe.SliceData(l)))
	return span{from, from + uintptr(cap(l))*unsafe.Sizeof(one)}
}

// checkApart fails, if two lists of these sheets share memory.
func checkApart(t *testing.T, sheets ...Sheet) {
	t.Helper()
	var spans []span
	for _, s := range sheets {
		spans = append(spans, spanOf(s.Cols), spanOf(s.Rows))
		for _, c := range s.Cols {
			spans = append(spans, spanOf(c.Words))
		}
		for _, row := range s.Rows {
			spans = append(spans, spanOf(row))
		}
	}
	for i, a := range spans {
		for _, b := range spans[:i] {
			if a.from < b.to && b.from < a.to {
				t.Fatal("shared", dump(sheets[0]))
			}
		}
	}
}

// isNone tells whether t is the zero value.
func isNone(t Sheet) bool {
	return t.Cols == nil && t.Rows == nil
}

// chance tells the same numbers in each run.
func chance(seed uint64) *rand.Rand {
	return rand.New(rand.NewPCG(seed, 6))
}

// pick is one of these by chance.
func pick[T any](c *rand.Rand, list ...T) T {
	return list[c.IntN(len(list))]
}

// randomCols is 1 to most columns that may stand in a sheet.
func randomCols(c *rand.Rand, most int) []Col {
	var cols []Col
	for i := range 1 + c.IntN(most) {
		col := Col{Name: fmt.Sprintf("%c%d_", 'Q'+rune(i), c.IntN(3)), Kind: Number}
		if c.IntN(2) == 0 {
			col.Kind = Choice
			for j := range 1 + c.IntN(api.MaxWords) {
				col.Words = append(col.Words, strings.Repeat(string(rune('a'+j)), 1+c.IntN(3)))
			}
		}
		cols = append(cols, col)
	}
	return cols
}

// randomSheet is a sheet that may be, of a few columns and rows.
func randomSheet(c *rand.Rand) Sheet {
	t := Sheet{Cols: randomCols(c, 5)}
	for range c.IntN(6) {
		var row []Cell
		for _, col := range t.Cols {
			x := Cell{Lacks: c.IntN(5) == 0}
			switch {
			case x.Lacks:
			case col.Kind == Number:
				x.Q = number(pick(c, "0", "7", "-3", "1/2", "-22/7", "99999999999999999999/7"))
			default:
				x.Word = c.IntN(len(col.Words))
			}
			row = append(row, x)
		}
		t.Rows = append(t.Rows, row)
	}
	return t
}

// 6.1: the numbers of the kinds.
func TestKinds(t *testing.T) {
	if Number != 1 || Choice != 2 {
		t.Error(Number, Choice)
	}
}

// 6.3: Column tells the place of each name, of no other.
func TestColumn(t *testing.T) {
	s := read(t, "x:number,k:choice(x|z),X:number\n1,z,2\n")
	for name, want := range map[string]int{"x": 0, "k": 1, "X": 2} {
		if got, ok := Column(s, name); got != want || !ok {
			t.Error(name, got, ok)
		}
	}
	for _, name := range []string{"", "z", "K", "x:number", " x", "xx"} {
		if got, ok := Column(s, name); got != 0 || ok {
			t.Error(name, got, ok)
		}
	}
	if got, ok := Column(Sheet{}, "x"); got != 0 || ok {
		t.Error("of none", got, ok)
	}
}

// unlike is sheets of which no two are alike, some of which may not be.
func unlike() []Sheet {
	x, k := Col{"x", Number, nil}, Col{"k", Choice, []string{"a", "b"}}
	one := Cell{Q: frac.Of(1)}
	return []Sheet{
		{},
		{Cols: []Col{x}},
		{Cols: []Col{k}},
		{Cols: []Col{x, k}},
		{Cols: []Col{k, x}},
		{Cols: []Col{{"y", Number, nil}}},
		{Cols: []Col{{"x", Choice, nil}}},
		{Cols: []Col{{"x", 0, nil}}},
		{Cols: []Col{{"x", Number, []string{"a"}}}},
		{Cols: []Col{{"k", Choice, []string{"b", "a"}}}},
		{Cols: []Col{{"k", Choice, []string{"a"}}}},
		{Cols: []Col{{"k", Choice, []string{"a", "b", "c"}}}},
		{Cols: []Col{{"k", Choice, []string{"a", "a"}}}},
		{Cols: []Col{x}, Rows: [][]Cell{{one}}},
		{Cols: []Col{x}, Rows: [][]Cell{{one}, {one}}},
		{Cols: []Col{x}, Rows: [][]Cell{{one}, {}}},
		{Cols: []Col{x}, Rows: [][]Cell{{}}},
		{Cols: []Col{x}, Rows: [][]Cell{{one, one}}},
		{Cols: []Col{x}, Rows: [][]Cell{{{Q: frac.Of(2)}}}},
		{Cols: []Col{x}, Rows: [][]Cell{{{Q: number("1/2")}}}},
		{Cols: []Col{x}, Rows: [][]Cell{{{}}}},
		{Cols: []Col{x}, Rows: [][]Cell{{{Lacks: true}}}},
		{Cols: []Col{x}, Rows: [][]Cell{{{Word: 1}}}},
		{Cols: []Col{k}, Rows: [][]Cell{{{}}}},
		{Cols: []Col{k}, Rows: [][]Cell{{{Word: 1}}}},
		{Cols: []Col{k}, Rows: [][]Cell{{{Word: -1}}}},
		{Cols: []Col{k}, Rows: [][]Cell{{{Lacks: true}}}},
		{Rows: [][]Cell{{one}}},
		{Rows: [][]Cell{{}, {one, one}}},
	}
}

// 6.3: Same tells each from each other one.
func TestSame(t *testing.T) {
	for i, a := range unlike() {
		for j, b := range unlike() {
			if Same(a, b) != (i == j) {
				t.Error(dump(a), "and", dump(b))
			}
		}
	}
}

// Rule 2: no list and an empty one are alike.
func TestSameOfNone(t *testing.T) {
	a := Sheet{Cols: []Col{{"x", Number, nil}}}
	b := Sheet{Cols: []Col{{"x", Number, []string{}}}, Rows: [][]Cell{}}
	if !Same(a, b) || !Same(b, a) || Check(a) != api.OK || Check(b) != api.OK {
		t.Error("unlike")
	}
	if !Same(Sheet{}, Sheet{[]Col{}, [][]Cell{}}) || !Same(Sheet{Rows: [][]Cell{nil}}, Sheet{Rows: [][]Cell{{}}}) {
		t.Error("unlike where they may not be")
	}
}

// 6.4, W1: numbers that are told in other words make the same sheet, others do not.
func TestOtherWordsOfNumbers(t *testing.T) {
	for _, alike := range [][]string{
		{"1/2", "0.5", "2/4", "0.50", "50/100", "0." + "5" + strings.Repeat("0", api.MaxDigits-1)},
		{"0", "0/7", "0.0", "-0.0", "-0.00"},
		{"-3", "-3/1", "-9/3", "-3.0"},
		{"1" + strings.Repeat("0", 199), "1" + strings.Repeat("0", 199) + ".0", "1" + strings.Repeat("0", 199) + "/1"},
	} {
		first := read(t, "x:number,k:choice(a|b)\n"+alike[0]+",b\n?,a\n")
		for _, s := range alike {
			got := read(t, "x:number,k:choice(a|b)\n"+s+",b\n?,a")
			if !Same(got, first) || dump(got) != dump(first) {
				t.Error(s, "is not", alike[0])
			}
			if Same(got, read(t, "x:number,k:choice(a|b)\n1/3,b\n?,a")) {
				t.Error(s, "is 1/3")
			}
		}
	}
}

// 6.4: whatever is told is read as it was.
func TestTextThereAndBack(t *testing.T) {
	c := chance(1)
	for range 2000 {
		s := randomSheet(c)
		text, e := Text(s)
		if e != api.OK {
			t.Fatal(e, dump(s))
		}
		for _, told := range []string{text, strings.TrimSuffix(text, "\n")} {
			back := read(t, told)
			if again, _ := Text(back); dump(back) != dump(s) || !Same(back, s) || again != text {
				t.Fatal(dump(s), dump(back))
			}
		}
	}
}

// 6.3: Text of each kind of column and cell, word by word.
func TestText(t *testing.T) {
	long := strings.Repeat("7", 300)
	seven, _ := frac.Parse(long[:200])
	s := Sheet{
		Cols: []Col{{"x_1", Number, nil}, {"k", Choice, []string{"one"}}, {"m", Choice, []string{"B", "a", "c_"}}},
		Rows: [][]Cell{
			{{Q: number("-0.50")}, {}, {Word: 2}},
			{{Lacks: true}, {Lacks: true}, {Lacks: true}},
			{{Q: seven.Mul(seven)}, {}, {Word: 1}},
		},
	}
	want := "x_1:number,k:choice(one),m:choice(B|a|c_)\n-1/2,one,c_\n?,?,?\n" + seven.Mul(seven).Text() + ",one,a\n"
	if got, e := Text(s); got != want || e != api.OK {
		t.Error(got, e)
	}
	if got, e := Text(Sheet{Cols: s.Cols[:1]}); got != "x_1:number\n" || e != api.OK {
		t.Error(got, e)
	}
}
