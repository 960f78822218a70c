package octet

import (
	"bytes"
	"encoding/binary"
	"math"
	"math/big"
	"math/rand/v2"
	"slices"
	"strings"
	"testing"

	"abaculus/frac"
	"abaculus/nat"
	"abaculus/whole"
)

// laidBy is what a new Writer has behind do.
func laidBy(do func(w *Writer)) []byte {
	w := NewWriter()
	do(w)
	return w.Bytes()
}

// counts is Counts at the edges of each number of groups, up to the greatest that is taken.
func counts() []int {
	list := []int{0, 1, 2, 63, 64, 300, 1 << 32, mostCount - 1, mostCount}
	for n := groupBits; n < 62; n += groupBits {
		list = append(list, 1<<n-1, 1<<n, 1<<n+1, 5<<n/4)
	}
	return list
}

// wholes is whole numbers at the edges of each number of bytes, and long ones, on both sides of 0.
func wholes() []whole.Int {
	list := []whole.Int{{}}
	both := func(a nat.Nat) { list = append(list, whole.From(false, a), whole.From(true, a)) }
	for _, n := range []int{0, 1, 7, 8, 9, 15, 16, 31, 32, 62, 63, 64, 65, 71, 72, 127, 128, 500, 511, 512, 4000} {
		power := nat.Of(1).Shift(n)
		both(power)
		both(power.Add(nat.Of(1)))
		if less, _ := power.Sub(nat.Of(1)); less.Bits() > 0 {
			both(less)
		}
	}
	return list
}

// fracs is fractions of short and of long parts, in lowest terms and not when they were made.
func fracs() []frac.Q {
	var list []frac.Q
	for i, n := range wholes() {
		for k, d := range wholes() {
			if a, ok := frac.Make(n, d); ok && (i*7+k)%5 == 0 {
				list = append(list, a)
			}
		}
	}
	return list
}

// texts is texts of some lengths, with bytes that are no runes too.
func texts() []string {
	return []string{"", "a", "hi", "né", "\x00", "\xff\xfe", "\x80", strings.Repeat("x", 127), strings.Repeat("y", 128), strings.Repeat("z", 16384)}
}

// 4.1: the examples of the document, and each form once.
func TestLaid(t *testing.T) {
	third, _ := frac.Over(-2, 6)
	for name, x := range map[string]struct {
		do   func(w *Writer)
		want []byte
	}{
		"Count(300)":   {func(w *Writer) { w.Count(300) }, []byte{0xac, 2}},
		"Whole(-1)":    {func(w *Writer) { w.Whole(whole.Of(-1)) }, []byte{3, 1}},
		"Whole(1)":     {func(w *Writer) { w.Whole(whole.Of(1)) }, []byte{2, 1}},
		"Whole(0)":     {func(w *Writer) { w.Whole(whole.Int{}) }, []byte{0}},
		"Whole(-258)":  {func(w *Writer) { w.Whole(whole.Of(-258)) }, []byte{5, 1, 2}},
		"Frac(-2/6)":   {func(w *Writer) { w.Frac(third) }, []byte{3, 1, 1, 3}},
		"Frac(0)":      {func(w *Writer) { w.Frac(frac.Q{}) }, []byte{0, 1, 1}},
		"Frac(7)":      {func(w *Writer) { w.Frac(frac.Of(7)) }, []byte{2, 7, 1, 1}},
		"Text of none": {func(w *Writer) { w.Text("") }, []byte{0}},
		"Text(né)":     {func(w *Writer) { w.Text("né") }, []byte{3, 'n', 0xc3, 0xa9}},
		"Bool(true)":   {func(w *Writer) { w.Bool(true) }, []byte{1}},
		"Bool(false)":  {func(w *Writer) { w.Bool(false) }, []byte{0}},
		"nothing":      {func(w *Writer) {}, nil},
	} {
		if got := laidBy(x.do); !bytes.Equal(got, x.want) {
			t.Error(name, got)
		}
	}
}

// 4.1: a Count is as few groups of seven bits as may be, the lowest first; below 0 it is 0's.
func TestCountLaid(t *testing.T) {
	for _, n := range append(counts(), mostCount+1, math.MaxInt) {
		got := laidBy(func(w *Writer) { w.Count(n) })
		if want := binary.AppendUvarint(nil, uint64(n)); !bytes.Equal(got, want) {
			t.Error(n, got, want)
		}
	}
	for _, n := range []int{-1, -128, math.MinInt} {
		if got := laidBy(func(w *Writer) { w.Count(n) }); !bytes.Equal(got, []byte{0}) {
			t.Error(n, got)
		}
	}
}

// signed is what is laid of a number with these bytes.
func signed(below bool, size []byte) []byte {
	head := uint64(2 * len(size))
	if below {
		head++
	}
	return append(binary.AppendUvarint(nil, head), size...)
}

// 4.1: whole numbers and fractions of any size.
func TestNumbersLaid(t *testing.T) {
	for _, a := range wholes() {
		want := signed(a.Sign() < 0, a.Abs().Bytes())
		if got := laidBy(func(w *Writer) { w.Whole(a) }); !bytes.Equal(got, want) {
			t.Error(a.Text(), got, want)
		}
	}
	for _, a := range fracs() {
		den := a.Den().Bytes()
		want := signed(a.Sign() < 0, a.Num().Abs().Bytes())
		want = append(binary.AppendUvarint(want, uint64(len(den))), den...)
		if got := laidBy(func(w *Writer) { w.Frac(a) }); !bytes.Equal(got, want) {
			t.Error(a.Text(), got, want)
		}
	}
}

// 4.1: texts of any length, whatever bytes they have.
func TestTextLaid(t *testing.T) {
	for _, s := range texts() {
		want := append(binary.AppendUvarint(nil, uint64(len(s))), s...)
		if got := laidBy(func(w *Writer) { w.Text(s) }); !bytes.Equal(got, want) {
			t.Error(len(s), got)
		}
	}
}

// 4.1: Bytes is all so far, one thing behind the other, as often as it is asked.
func TestAllSoFar(t *testing.T) {
	w := NewWriter()
	var want []byte
	for i := range 300 {
		if got := w.Bytes(); !bytes.Equal(got, want) || !bytes.Equal(w.Bytes(), want) {
			t.Fatal(i, got, want)
		}
		w.Count(i * i)
		want = binary.AppendUvarint(want, uint64(i*i))
		w.Bool(i%2 == 1)
		want = append(want, byte(i%2))
		w.Text("ab")
		want = append(want, 2, 'a', 'b')
	}
}

// Rule 2: what Bytes answers is new, has no room behind it, and stays as it is when more is laid.
func TestBytesAreNew(t *testing.T) {
	w := NewWriter()
	for i := range 100 {
		w.Text("abc")
		early := w.Bytes()
		want := slices.Clone(early)
		if cap(early) != len(early) {
			t.Fatal("room behind", len(early), cap(early))
		}
		w.Count(9)
		_ = append(early, 77)
		if !bytes.Equal(early, want) || w.Bytes()[len(want)] != 9 {
			t.Fatal(i, "they share memory")
		}
		clear(early)
		if !bytes.Equal(w.Bytes()[:len(want)], want) {
			t.Fatal(i, "handed out its own bytes")
		}
	}
	one, other := NewWriter(), NewWriter()
	one.Count(5)
	if len(other.Bytes()) != 0 {
		t.Error("two Writers share", other.Bytes())
	}
}

// What is cut off has no room behind it: who appends to it leaves alone what stands there.
func TestCut(t *testing.T) {
	b := []byte{1, 2, 3, 4}
	for n := range len(b) + 1 {
		first, behind := cut(b, n)
		_ = append(first, 77)
		if len(first) != n || !bytes.Equal(b, []byte{1, 2, 3, 4}) || !bytes.Equal(behind, b[n:]) {
			t.Error(n, first, behind)
		}
	}
}

// 4.4: each thing is taken as it was laid, in long rows of things by chance.
func TestThereAndBack(t *testing.T) {
	r := rand.New(rand.NewPCG(4, 4))
	all := things()
	for range 200 {
		w := NewWriter()
		row := make([]thing, r.IntN(40))
		for i := range row {
			row[i] = all[r.IntN(len(all))]
			row[i].lay(w)
		}
		back := NewReader(w.Bytes())
		left := back.Left()
		for _, x := range row {
			left -= len(laidBy(x.lay))
			if !x.isNext(back) || back.Bad() || back.Left() != left {
				t.Fatal(x.name, "is not taken as it was laid", back.Bad(), back.Left(), left)
			}
		}
		if left != 0 {
			t.Fatal("left", left)
		}
	}
}

// thing is something to be laid, and how to tell whether it is what a Reader has next.
type thing struct {
	name   string
	lay    func(w *Writer)
	isNext func(r *Reader) bool
}

func things() []thing {
	var list []thing
	for _, n := range counts() {
		list = append(list, thing{"Count", func(w *Writer) { w.Count(n) }, func(r *Reader) bool { return r.Count(n) == n }})
	}
	for _, a := range wholes() {
		list = append(list, thing{"Whole " + a.Text(), func(w *Writer) { w.Whole(a) }, func(r *Reader) bool { return r.Whole().Cmp(a) == 0 }})
	}
	for _, a := range fracs() {
		list = append(list, thing{"Frac " + a.Text(), func(w *Writer) { w.Frac(a) }, func(r *Reader) bool { return r.Frac().Cmp(a) == 0 }})
	}
	for _, s := range texts() {
		list = append(list, thing{"Text", func(w *Writer) { w.Text(s) }, func(r *Reader) bool { return r.Text(len(s)) == s }})
	}
	for _, b := range []bool{false, true} {
		list = append(list, thing{"Bool", func(w *Writer) { w.Bool(b) }, func(r *Reader) bool { return r.Bool() == b }})
	}
	return list
}

// 4.4: things of one kind that are not alike are laid otherwise, and none is the beginning of another.
func TestNoneBeginsAnother(t *testing.T) {
	kinds := map[string][][]byte{}
	for _, x := range things() {
		kind, _, _ := strings.Cut(x.name, " ")
		kinds[kind] = append(kinds[kind], laidBy(x.lay))
	}
	for kind, list := range kinds {
		slices.SortFunc(list, bytes.Compare)
		list = slices.CompactFunc(list, bytes.Equal)
		for i := range len(list) - 1 {
			if bytes.HasPrefix(list[i+1], list[i]) {
				t.Error(kind, list[i], list[i+1])
			}
		}
	}
}

// 4.4: however a fraction was come by, it is laid alike.
func TestOneWayToBeLaid(t *testing.T) {
	for i := int64(-6); i <= 6; i++ {
		for d := int64(1); d <= 6; d++ {
			want := laidBy(func(w *Writer) { q, _ := frac.Over(i, d); w.Frac(q) })
			long := new(big.Int).Lsh(big.NewInt(1), 100)
			n, _ := whole.Parse(new(big.Int).Mul(big.NewInt(i), long).String())
			m, _ := whole.Parse(new(big.Int).Mul(big.NewInt(-d), long).String())
			q, _ := frac.Make(n, m)
			if got := laidBy(func(w *Writer) { w.Frac(q.Neg()) }); !bytes.Equal(got, want) {
				t.Error(i, d, got, want)
			}
		}
	}
}
