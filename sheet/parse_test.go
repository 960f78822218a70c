package sheet

import (
	"math/big"
	"math/rand/v2"
	"regexp"
	"slices"
	"strings"
	"testing"

	"abaculus/api"
)

const nameForm = `[A-Za-z][A-Za-z0-9_]{0,19}`

var (
	colForm     = regexp.MustCompile(`^(` + nameForm + `):(number|choice\((` + nameForm + `(?:\|` + nameForm + `)*)\))$`)
	wholeForm   = regexp.MustCompile(`^(0|-?[1-9][0-9]{0,199})$`)
	overForm    = regexp.MustCompile(`^(0|-?[1-9][0-9]{0,199})/[1-9][0-9]{0,199}$`)
	decimalForm = regexp.MustCompile(`^-?(0|[1-9][0-9]{0,199})\.[0-9]{1,200}$`)
)

// textOf is what Text tells of the sheet of that text, and its fault, by the
// document's words alone.
func textOf(s string) (string, api.Fault) {
	if len(s) > 1<<16 {
		return "", api.Fault{Kind: api.ErrLong}
	}
	lines := strings.Split(s, "\n")
	if len(lines) > 1 && lines[len(lines)-1] == "" {
		lines = lines[:len(lines)-1]
	}
	cols := strings.Split(lines[0], ",")
	kinds := make([][]string, len(cols))
	names := map[string]bool{}
	for i, col := range cols {
		m := colForm.FindStringSubmatch(col)
		if m == nil {
			return "", api.Fault{Kind: api.ErrForm, Line: 1, At: i}
		}
		if m[3] != "" {
			kinds[i] = strings.Split(m[3], "|")
		}
		if i >= 20 || len(kinds[i]) > 12 {
			return "", api.Fault{Kind: api.ErrLong, Line: 1, At: i}
		}
		words := map[string]bool{}
		for _, w := range kinds[i] {
			words[w] = true
		}
		if names[m[1]] || len(words) < len(kinds[i]) {
			return "", api.Fault{Kind: api.ErrIs, Line: 1, At: i}
		}
		names[m[1]] = true
	}
	for i, line := range lines[1:] {
		cells := strings.Split(line, ",")
		if i >= 300 {
			return "", api.Fault{Kind: api.ErrLong, Line: i + 2}
		}
		if len(cells) != len(cols) {
			return "", api.Fault{Kind: api.ErrShape, Line: i + 2}
		}
		for j, x := range cells {
			switch {
			case x == "?":
			case kinds[j] == nil && !wholeForm.MatchString(x) && !overForm.MatchString(x) && !decimalForm.MatchString(x):
				return "", api.Fault{Kind: api.ErrForm, Line: i + 2, At: j}
			case kinds[j] == nil:
				q, _ := new(big.Rat).SetString(x)
				cells[j] = q.RatString()
			case !slices.Contains(kinds[j], x):
				return "", api.Fault{Kind: api.ErrName, Line: i + 2, At: j}
			}
		}
		lines[i+1] = strings.Join(cells, ",")
	}
	return strings.Join(lines, "\n") + "\n", api.Fault{}
}

// checkParse holds Parse of s against the document's words, and tells its fault.
func checkParse(t *testing.T, s string) api.Fault {
	t.Helper()
	want, fault := textOf(s)
	got, f := Parse(s)
	if f != fault {
		t.Fatalf("%.200q: %v, not %v", s, f, fault)
	}
	if f.Kind != api.OK {
		if !isNone(got) {
			t.Fatalf("%.200q: beside a fault %s", s, dump(got))
		}
		return f
	}
	if text, e := Text(got); text != want || e != api.OK || Check(got) != api.OK {
		t.Fatalf("%.200q: %q %v, not %q", s, text, e, want)
	}
	return f
}

// 6.2: all texts of a few pieces.
func TestParseOfAllShort(t *testing.T) {
	pieces := []string{"x", "y", ":", "number", "choice", "(", ")", "|", ",", "\n", "1", "?", " "}
	headed := []string{"x:number,y:choice(a|b)\n", "x:choice(a)", "x:number", "x:choice(a|", "x:choice"}
	level := append([]string{""}, headed...)
	for range 4 {
		var next []string
		for _, s := range level {
			for _, p := range pieces {
				next = append(next, s+p)
			}
		}
		for _, s := range next {
			checkParse(t, s)
		}
		level = next
	}
}

// 6.2: each byte at each place of a text.
func TestParseOfEachByte(t *testing.T) {
	good := "x:number,k:choice(a|b)\n1/2,b\n-0.5,?\n"
	for i := range len(good) + 1 {
		for b := range 256 {
			c := string([]byte{byte(b)})
			checkParse(t, good[:i]+c+good[i:])
			if i < len(good) {
				checkParse(t, good[:i]+c+good[i+1:])
			}
		}
		checkParse(t, good[:i])
		checkParse(t, good[i:])
	}
}

// turned is s with some pieces taken out, put in or doubled.
func turned(c *rand.Rand, s string) string {
	for range c.IntN(4) {
		i := c.IntN(len(s) + 1)
		j := min(len(s), i+c.IntN(6))
		piece := pick(c, ",", "|", "\n", "?", ":", "(", ")", "a", "0", "-", ".", "/", " ", "\r", "\x00", "é", ":number", ",z:number", "1,", "")
		switch c.IntN(4) {
		case 0:
			s = s[:i] + piece + s[i:]
		case 1:
			s = s[:i] + piece + s[j:]
		case 2:
			s = s[:i] + s[j:]
		default:
			s = s[:j] + s[i:]
		}
	}
	return s
}

// 6.2: texts of sheets, turned a little; each fault is told often.
func TestParseOfTurned(t *testing.T) {
	c := chance(3)
	told := map[api.Errno]int{}
	for range 30000 {
		text, _ := Text(randomSheet(c))
		told[checkParse(t, turned(c, text)).Kind]++
	}
	for _, e := range []api.Errno{api.OK, api.ErrForm, api.ErrIs, api.ErrShape, api.ErrName} {
		if told[e] < 100 {
			t.Error(e, "is told too seldom", told[e])
		}
	}
}

// colsOf is a line of n columns of names unlike one another.
func colsOf(n int) string {
	var cols []string
	for i := range n {
		cols = append(cols, strings.Repeat("c", i/5+1)+string(rune('a'+i%5))+":number")
	}
	return strings.Join(cols, ",")
}

// wordsOf is n words unlike one another.
func wordsOf(n int) string {
	var words []string
	for i := range n {
		words = append(words, strings.Repeat("w", i/5+1)+string(rune('a'+i%5)))
	}
	return strings.Join(words, "|")
}

// 6.2: the faults by their order, and at the bounds.
func TestParseFaults(t *testing.T) {
	full := "x:number\n" + strings.Repeat("1\n", api.MaxRows)
	name := strings.Repeat("n", api.MaxName)
	long := strings.Repeat("7", api.MaxDigits)
	for i, c := range []struct {
		s    string
		want api.Fault
	}{
		{"", api.Fault{Kind: api.ErrForm, Line: 1}},
		{"\n", api.Fault{Kind: api.ErrForm, Line: 1}},
		{"\n\n", api.Fault{Kind: api.ErrForm, Line: 1}},
		{"\nx:number", api.Fault{Kind: api.ErrForm, Line: 1}},
		{",", api.Fault{Kind: api.ErrForm, Line: 1}},
		{"x:number\r\n1\r\n", api.Fault{Kind: api.ErrForm, Line: 1}},
		{"x:number\n1\r\n", api.Fault{Kind: api.ErrForm, Line: 2}},
		{"x:Number", api.Fault{Kind: api.ErrForm, Line: 1}},
		{"x:numbers", api.Fault{Kind: api.ErrForm, Line: 1}},
		{"x:number()", api.Fault{Kind: api.ErrForm, Line: 1}},
		{"x:choice", api.Fault{Kind: api.ErrForm, Line: 1}},
		{"x:choice(a)b", api.Fault{Kind: api.ErrForm, Line: 1}},
		{"x:choice(a))", api.Fault{Kind: api.ErrForm, Line: 1}},
		{"x:choice((a)", api.Fault{Kind: api.ErrForm, Line: 1}},
		{"x:choice(|a)", api.Fault{Kind: api.ErrForm, Line: 1}},
		{"x:choice(a||b)", api.Fault{Kind: api.ErrForm, Line: 1}},
		{"x:choice(a,b)", api.Fault{Kind: api.ErrForm, Line: 1}},
		{"x::number", api.Fault{Kind: api.ErrForm, Line: 1}},
		{":number", api.Fault{Kind: api.ErrForm, Line: 1}},
		{name + ":choice(" + name + ")\n" + name, api.Fault{}},
		{name + "n:number", api.Fault{Kind: api.ErrForm, Line: 1}},
		{"x:number,y:choice(" + name + "n)", api.Fault{Kind: api.ErrForm, Line: 1, At: 1}},
		{colsOf(api.MaxCols), api.Fault{}},
		{colsOf(api.MaxCols + 1), api.Fault{Kind: api.ErrLong, Line: 1, At: api.MaxCols}},
		{colsOf(api.MaxCols+9) + ",", api.Fault{Kind: api.ErrLong, Line: 1, At: api.MaxCols}},
		{colsOf(api.MaxCols) + ",ca:number", api.Fault{Kind: api.ErrLong, Line: 1, At: api.MaxCols}},
		{colsOf(api.MaxCols) + ",", api.Fault{Kind: api.ErrForm, Line: 1, At: api.MaxCols}},
		{colsOf(api.MaxCols-1) + ",ca:number,x", api.Fault{Kind: api.ErrIs, Line: 1, At: api.MaxCols - 1}},
		{"x:choice(" + wordsOf(api.MaxWords) + ")", api.Fault{}},
		{"x:choice(" + wordsOf(api.MaxWords+1) + ")", api.Fault{Kind: api.ErrLong, Line: 1}},
		{"x:choice(" + wordsOf(api.MaxWords+1) + "|)", api.Fault{Kind: api.ErrForm, Line: 1}},
		{"x:choice(" + wordsOf(api.MaxWords) + "|wa)", api.Fault{Kind: api.ErrLong, Line: 1}},
		{"x:number,x:choice(" + wordsOf(api.MaxWords+1) + ")", api.Fault{Kind: api.ErrLong, Line: 1, At: 1}},
		{"x:number,x:choice(a|)", api.Fault{Kind: api.ErrForm, Line: 1, At: 1}},
		{"x:number,x:choice(a|b)", api.Fault{Kind: api.ErrIs, Line: 1, At: 1}},
		{"x:number,y:choice(x|y),z:choice(x)", api.Fault{}},
		{"x:number,y:choice(x|y|x),1", api.Fault{Kind: api.ErrIs, Line: 1, At: 1}},
		{"x:number,y\n1", api.Fault{Kind: api.ErrForm, Line: 1, At: 1}},
		{full, api.Fault{}},
		{strings.TrimSuffix(full, "\n"), api.Fault{}},
		{full + "\n", api.Fault{Kind: api.ErrLong, Line: api.MaxRows + 2}},
		{full + "1,1", api.Fault{Kind: api.ErrLong, Line: api.MaxRows + 2}},
		{"x:number,y:choice(a)\nq,b,", api.Fault{Kind: api.ErrShape, Line: 2}},
		{"x:number,y:choice(a)\n1,b\n1", api.Fault{Kind: api.ErrName, Line: 2, At: 1}},
		{"y:choice(a),x:number\nb,q", api.Fault{Kind: api.ErrName, Line: 2}},
		{"y:choice(a),x:number\n?,q", api.Fault{Kind: api.ErrForm, Line: 2, At: 1}},
		{"x:number,y:choice(a)\n??,a", api.Fault{Kind: api.ErrForm, Line: 2}},
		{"x:number,y:choice(a)\n1,A", api.Fault{Kind: api.ErrName, Line: 2, At: 1}},
		{"x:number,y:choice(a)\n1,a\n\n", api.Fault{Kind: api.ErrShape, Line: 3}},
		{"x:number\n" + long + "." + long + "\n-" + long + "/" + long, api.Fault{}},
		{"x:number\n1\n" + long + "7", api.Fault{Kind: api.ErrForm, Line: 3}},
		{"x:number\n1/0", api.Fault{Kind: api.ErrForm, Line: 2}},
		{"x:number\n007", api.Fault{Kind: api.ErrForm, Line: 2}},
		{"x:number\n-0", api.Fault{Kind: api.ErrForm, Line: 2}},
		{"x:number\n 1", api.Fault{Kind: api.ErrForm, Line: 2}},
	} {
		if got := checkParse(t, c.s); got != c.want {
			t.Errorf("%d %.60q: %v", i, c.s, got)
		}
	}
}

// 6.2: the longest text, and one that is longer by a byte, whatever it is.
func TestParseOfTheLongest(t *testing.T) {
	half := strings.Repeat("7", api.MaxDigits)
	row := half + "." + half + "\n"
	s := "x:number\n"
	for len(s)+len(row) < api.MaxText {
		s += row
	}
	s += half[:api.MaxText-len(s)]
	if f := checkParse(t, s); len(s) != api.MaxText || f.Kind != api.OK {
		t.Error(len(s), f)
	}
	if f := checkParse(t, s+"\n"); f != (api.Fault{Kind: api.ErrLong}) {
		t.Error(f)
	}
	for _, s := range []string{"x", ",", "\n", "x:number\n", "a|"} {
		long := strings.Repeat(s, api.MaxText)[:api.MaxText]
		if f := checkParse(t, long); f.Line != 1 && f.Line != 2 {
			t.Errorf("%q: %v", s, f)
		}
		if f := checkParse(t, long+"x"); f != (api.Fault{Kind: api.ErrLong}) {
			t.Errorf("%q: %v", s, f)
		}
	}
	many := "x:choice(" + strings.Repeat("a|", api.MaxText/2-6) + "a)"
	if f := checkParse(t, many); f != (api.Fault{Kind: api.ErrLong, Line: 1}) {
		t.Error(f)
	}
}

// Rule 2: no two lists of an answer share memory.
func TestParseIsNew(t *testing.T) {
	s := "x:number,k:choice(a|b),m:choice(c)\n1,a,c\n2,b,?\n3,a,c\n"
	checkApart(t, read(t, s), read(t, s))
}
