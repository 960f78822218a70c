package octet

import (
	"bytes"
	"encoding/binary"
	"math"
	"math/big"
	"slices"
	"strings"
	"testing"

	"abaculus/frac"
	"abaculus/whole"
)

// isSpoilt tells whether r is bad, and answers as a bad one does, whatever it is asked.
func isSpoilt(r *Reader) bool {
	return r.Bad() && r.Left() == 0 &&
		r.Count(math.MaxInt) == 0 && r.Whole().Sign() == 0 && r.Frac().Sign() == 0 &&
		r.Text(math.MaxInt) == "" && !r.Bool() && r.Count(-1) == 0 && r.Text(0) == "" &&
		r.Bad() && r.Left() == 0
}

// ended is b with other bytes behind it that are not its own: who reads too far gets them.
func ended(b []byte) []byte {
	return append(slices.Clone(b), 1, 1, 1, 1, 1, 1, 1, 1, 1)[:len(b)]
}

// take is what a Reader takes of one kind, told as text.
type take struct {
	name string
	take func(r *Reader) string
	zero string
}

func takes() []take {
	return []take{
		{"Count", func(r *Reader) string { return big.NewInt(int64(r.Count(math.MaxInt))).String() }, "0"},
		{"Whole", func(r *Reader) string { return r.Whole().Text() }, "0"},
		{"Frac", func(r *Reader) string { return r.Frac().Text() }, "0"},
		{"Text", func(r *Reader) string { return r.Text(math.MaxInt) }, ""},
		{"Bool", func(r *Reader) string { return map[bool]string{true: "yes"}[r.Bool()] }, ""},
	}
}

// 4.2: what ends too early, at whichever byte, is bad; what stands behind is no matter.
func TestEndsTooEarly(t *testing.T) {
	for _, x := range things() {
		laid := laidBy(x.lay)
		for n := range len(laid) {
			r := NewReader(ended(laid[:n]))
			x.isNext(r)
			if !isSpoilt(r) {
				t.Fatal(x.name, "is taken of its first", n, "of", len(laid))
			}
			if n > 300 {
				break
			}
		}
		r := NewReader(append(laid, 200))
		if !x.isNext(r) || r.Bad() || r.Left() != 1 {
			t.Fatal(x.name, "with a byte behind", r.Bad(), r.Left())
		}
	}
}

// 4.2: each form that no Writer lays.
func TestBadForms(t *testing.T) {
	noughts := bytes.Repeat([]byte{0x80}, 40)
	high := binary.AppendUvarint(nil, mostCount+1)
	for i, x := range []struct {
		kind string
		b    []byte
	}{
		{"Count", nil},
		{"Count", []byte{0x80, 0}},
		{"Count", []byte{0xff, 0}},
		{"Count", []byte{0xac, 0x82, 0}},
		{"Count", append(noughts[:8:8], 0)},
		{"Count", append(noughts[:9:9], 0)},
		{"Count", append(noughts[:9:9], 1)},
		{"Count", append(noughts[:9:9], 2)},
		{"Count", append(noughts[:10:10], 1)},
		{"Count", append(noughts[:30:30], 0)},
		{"Count", append(noughts[:30:30], 1)},
		{"Count", noughts},
		{"Count", high},
		{"Count", binary.AppendUvarint(nil, 1<<63-1)},
		{"Count", binary.AppendUvarint(nil, 1<<63)},
		{"Count", binary.AppendUvarint(nil, 1<<64-1)},
		{"Whole", nil},
		{"Whole", []byte{1}},
		{"Whole", []byte{1, 1}},
		{"Whole", []byte{2, 0}},
		{"Whole", []byte{3, 0}},
		{"Whole", []byte{4, 0, 1}},
		{"Whole", []byte{4, 0, 0}},
		{"Whole", []byte{0x82, 0, 7}},
		{"Whole", high},
		{"Whole", append(noughts[:8:8], 0x40)},
		{"Frac", nil},
		{"Frac", []byte{0}},
		{"Frac", []byte{0, 0}},
		{"Frac", []byte{0, 1, 2}},
		{"Frac", []byte{0, 1, 0}},
		{"Frac", []byte{0, 2, 0, 1}},
		{"Frac", []byte{1, 1, 1}},
		{"Frac", []byte{2, 1, 0}},
		{"Frac", []byte{2, 1, 1, 0}},
		{"Frac", []byte{2, 2, 1, 2}},
		{"Frac", []byte{3, 2, 1, 2}},
		{"Frac", []byte{2, 9, 1, 6}},
		{"Frac", []byte{2, 6, 1, 6}},
		{"Frac", []byte{2, 1, 2, 0, 3}},
		{"Frac", []byte{2, 0, 1, 3}},
		{"Frac", []byte{2, 1, 0x81, 0, 3}},
		{"Frac", append([]byte{2, 1}, high...)},
		{"Frac", []byte{2, 1, 1}},
		{"Text", nil},
		{"Text", []byte{0x80, 0}},
		{"Text", []byte{3, 'a', 'b'}},
		{"Text", high},
		{"Text", append(noughts[:8:8], 0x40)},
		{"Bool", nil},
		{"Bool", []byte{2}},
		{"Bool", []byte{128}},
		{"Bool", []byte{255}},
	} {
		for _, how := range takes() {
			if how.name != x.kind {
				continue
			}
			r := NewReader(ended(x.b))
			if r.Bad() || r.Left() != len(x.b) {
				t.Error(i, x.kind, "at first", r.Bad(), r.Left())
			}
			if got := how.take(r); got != how.zero || !isSpoilt(r) {
				t.Error(i, x.kind, x.b, got, "is not bad")
			}
		}
	}
}

// 4.2: of a fraction of long parts, too, one not in lowest terms is bad.
func TestLowestTerms(t *testing.T) {
	for _, a := range fracs() {
		for _, times := range []int64{2, 3, 257} {
			num := a.Num().Mul(whole.Of(times))
			den := whole.From(false, a.Den()).Mul(whole.Of(times)).Abs().Bytes()
			laid := laidBy(func(w *Writer) { w.Whole(num); w.Text(string(den)) })
			r := NewReader(laid)
			if got := r.Frac(); got.Sign() != 0 || !isSpoilt(r) {
				t.Fatal(a.Text(), "times", times, "is taken")
			}
		}
	}
}

// 4.2: a Count and a Text have at most so many; below 0 there is none.
func TestMost(t *testing.T) {
	for _, n := range counts() {
		laid := laidBy(func(w *Writer) { w.Count(n) })
		for _, most := range []int{n, n + 1, math.MaxInt} {
			r := NewReader(laid)
			if got := r.Count(most); got != n || r.Bad() || r.Left() != 0 {
				t.Error(n, "of at most", most, got)
			}
		}
		for _, most := range []int{n - 1, -1, math.MinInt} {
			r := NewReader(laid)
			if got := r.Count(most); got != 0 || !isSpoilt(r) {
				t.Error(n, "of at most", most, got)
			}
		}
	}
	for _, s := range texts() {
		laid := laidBy(func(w *Writer) { w.Text(s) })
		for _, most := range []int{len(s), len(s) + 1, math.MaxInt} {
			r := NewReader(laid)
			if got := r.Text(most); got != s || r.Bad() || r.Left() != 0 {
				t.Error(len(s), "of at most", most, len(got))
			}
		}
		for _, most := range []int{len(s) - 1, -1, math.MinInt} {
			r := NewReader(laid)
			if got := r.Text(most); got != "" || !isSpoilt(r) {
				t.Error(len(s), "of at most", most, len(got))
			}
		}
	}
}

// 4.2: a bad one stays so, though what follows would be right.
func TestStaysBad(t *testing.T) {
	for _, how := range takes() {
		r := NewReader([]byte{1, 0x82, 0, 1, 1, 1, 1, 1, 1})
		if !r.Bool() || r.Left() != 8 {
			t.Fatal("a Bool ahead")
		}
		if got := how.take(r); got != how.zero || !isSpoilt(r) {
			t.Error(how.name, got)
		}
	}
	r := NewReader(nil)
	if r.Bad() || r.Left() != 0 {
		t.Error("of nothing, not asked")
	}
}

// Rule 2: the bytes handed in are not changed, and not kept.
func TestReaderKeepsNothing(t *testing.T) {
	third, _ := frac.Over(-1, 3)
	b := laidBy(func(w *Writer) { w.Text("abc"); w.Frac(third); w.Bool(true) })
	want := slices.Clone(b)
	r := NewReader(b)
	if s := r.Text(3); s != "abc" || !bytes.Equal(b, want) {
		t.Error("changed", s, b)
	}
	clear(b)
	if a := r.Frac(); a.Cmp(third) != 0 || !r.Bool() || r.Bad() {
		t.Error("kept", a.Text())
	}
}

// told is what the document says that a Reader takes of b, worked out by the
// library's numbers, and how many bytes that has; false, if it is bad.
func told(kind string, b []byte) (text string, size int, ok bool) {
	if kind == "Bool" {
		return map[bool]string{true: "yes"}[len(b) > 0 && b[0] == 1], 1, len(b) > 0 && b[0] < 2
	}
	n, size := binary.Uvarint(b)
	if size <= 0 || n > 1<<62 || !bytes.Equal(binary.AppendUvarint(nil, n), b[:size]) {
		return "", 0, false
	}
	if kind == "Count" {
		return new(big.Int).SetUint64(n).String(), size, true
	}
	below := kind != "Text" && n%2 == 1
	if kind != "Text" {
		n /= 2
	}
	if n > uint64(len(b)-size) {
		return "", 0, false
	}
	body := b[size : size+int(n)]
	size += int(n)
	if kind == "Text" {
		return string(body), size, true
	}
	if n > 0 && body[0] == 0 || n == 0 && below {
		return "", 0, false
	}
	num := new(big.Int).SetBytes(body)
	if below {
		num.Neg(num)
	}
	if kind == "Whole" {
		return num.String(), size, true
	}
	denBytes, denSize, ok := told("Text", b[size:])
	if !ok || denBytes == "" || denBytes[0] == 0 {
		return "", 0, false
	}
	den := new(big.Int).SetBytes([]byte(denBytes))
	lowest := new(big.Int).GCD(nil, nil, new(big.Int).Abs(num), den).Cmp(big.NewInt(1)) == 0
	return new(big.Rat).SetFrac(num, den).RatString(), size + denSize, lowest
}

// 4.2, 4.4: of all short rows of bytes just those are taken that the document allows, and as it says.
func TestEachShortRow(t *testing.T) {
	var grow func(b, alphabet []byte, n int)
	tries := 0
	grow = func(b, alphabet []byte, n int) {
		for _, how := range takes() {
			want, size, ok := told(how.name, b)
			r := NewReader(b)
			got := how.take(r)
			if r.Bad() == ok || ok && (got != want || r.Left() != len(b)-size) || !ok && (got != how.zero || r.Left() != 0) {
				t.Fatal(how.name, b, "is", got, r.Bad(), r.Left(), "not", want, ok, size)
			}
		}
		tries++
		if n == 0 {
			return
		}
		for _, c := range alphabet {
			grow(append(b[:len(b):len(b)], c), alphabet, n-1)
		}
	}
	all := make([]byte, 256)
	for i := range all {
		all[i] = byte(i)
	}
	grow(nil, all, 2)
	grow(nil, []byte{0, 1, 2, 3, 4, 6, 0x7f, 0x80, 0x81, 0xff}, 5)
	if tries < 1<<16 {
		t.Error("too few", tries)
	}
}

// Rule 1: what begins as very much, and is not there, takes neither time nor memory.
func TestHugeHeads(t *testing.T) {
	head := laidBy(func(w *Writer) { w.Count(mostCount) })
	for _, how := range takes()[1:4] {
		for range 1000 {
			r := NewReader(head)
			if got := how.take(r); got != how.zero || !isSpoilt(r) {
				t.Fatal(how.name, got)
			}
		}
	}
}

// Rule 8: long rows and long things are taken in a time that goes with their length.
func TestLongOnes(t *testing.T) {
	w := NewWriter()
	const many = 1 << 19
	for i := range many {
		w.Count(i)
	}
	long := strings.Repeat("0123456789abcdef", 1<<18)
	w.Text(long)
	power := whole.Of(-1).Mul(whole.From(false, laidNumber(1<<16)))
	w.Whole(power)
	r := NewReader(w.Bytes())
	for i := range many {
		if got := r.Count(many); got != i {
			t.Fatal(i, got)
		}
	}
	if r.Text(len(long)) != long || r.Whole().Cmp(power) != 0 || r.Left() != 0 || r.Bad() {
		t.Error("long ones", r.Left(), r.Bad())
	}
}
