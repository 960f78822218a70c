package octet

import (
	"bytes"
	"encoding/binary"
	"hash/fnv"
	"math"
	"slices"
	"strings"
	"testing"

	"abaculus/api"
	"abaculus/nat"
)

// laidNumber is a number of n bytes, none of them 0.
func laidNumber(n int) nat.Nat {
	return nat.FromBytes(bodyOf(n))
}

// bodyOf is n bytes, none of them 0.
func bodyOf(n int) []byte {
	b := make([]byte, n)
	for i := range b {
		b[i] = byte(i*i%255 + 1)
	}
	return b
}

// sumOf is the library's Sum.
func sumOf(b []byte) uint64 {
	h := fnv.New64a()
	h.Write(b)
	return h.Sum64()
}

// 4.3: Sum is FNV-1a.
func TestSum(t *testing.T) {
	for n := range 300 {
		b := bodyOf(n)
		if got := Sum(b); got != sumOf(b) {
			t.Error(n, got)
		}
	}
	if Sum(nil) != 14695981039346656037 || Sum([]byte{0}) == Sum(nil) || Sum([]byte{0}) == Sum([]byte{0, 0}) {
		t.Error("of nothing, of noughts", Sum(nil), Sum([]byte{0}))
	}
}

// 4.3: a sealed one is its kind, its body's Count, its body and the Sum of all that.
func TestSeal(t *testing.T) {
	for _, kind := range []int{1, 2, 127, 128, 255} {
		for _, n := range []int{0, 1, 2, 127, 128, 129, 16383, 16384, 1 << 21, api.MaxBytes - 1, api.MaxBytes} {
			body := bodyOf(n)
			want := binary.AppendUvarint([]byte{byte(kind)}, uint64(n))
			want = append(want, body...)
			want = binary.BigEndian.AppendUint64(want, sumOf(want))
			got, e := Seal(kind, body)
			if e != api.OK || !bytes.Equal(got, want) || cap(got) != len(got) {
				t.Error(kind, n, e, len(got), cap(got))
			}
			if !bytes.Equal(body, bodyOf(n)) {
				t.Error("changed", kind, n)
			}
			backKind, back, size, e := Next(append(got, 1, 2, 3))
			if backKind != kind || !bytes.Equal(back, body) || size != len(want) || e != api.OK || cap(back) != len(back) {
				t.Error("back", backKind, len(back), size, e)
			}
		}
	}
}

// 4.3: of kinds that may not be, then of too long a body.
func TestSealRefuses(t *testing.T) {
	for _, x := range []struct {
		kind, size int
		want       api.Errno
	}{
		{0, 0, api.ErrArg}, {-1, 3, api.ErrArg}, {256, 3, api.ErrArg}, {math.MaxInt, 0, api.ErrArg}, {math.MinInt, 0, api.ErrArg}, {257, 0, api.ErrArg},
		{0, api.MaxBytes + 1, api.ErrArg}, {256, api.MaxBytes + 1, api.ErrArg},
		{1, api.MaxBytes + 1, api.ErrLong}, {255, 2 * api.MaxBytes, api.ErrLong},
	} {
		if b, e := Seal(x.kind, make([]byte, x.size)); e != x.want || b != nil {
			t.Error(x, e, len(b))
		}
	}
}

// 4.3: what Next finds wrong, in its order.
func TestNextRefuses(t *testing.T) {
	noughts := bytes.Repeat([]byte{0x80}, 40)
	count := func(n uint64, behind int) []byte {
		return append(binary.AppendUvarint([]byte{3}, n), make([]byte, behind)...)
	}
	kind := func(b ...byte) []byte { return append([]byte{3}, b...) }
	for i, x := range []struct {
		b    []byte
		want api.Errno
	}{
		{nil, api.ErrShort},
		{[]byte{}, api.ErrShort},
		{[]byte{0}, api.ErrForm},
		{[]byte{0, 0x80}, api.ErrForm},
		{append([]byte{0}, count(1<<30, 9)...), api.ErrForm},
		{kind(), api.ErrShort},
		{kind(0x80), api.ErrShort},
		{kind(0xff, 0xff, 0xff, 0xff, 0xff), api.ErrShort},
		{kind(noughts...), api.ErrShort},
		{kind(bytes.Repeat([]byte{0xff}, 5000)...), api.ErrShort},
		{kind(0x80, 0), api.ErrForm},
		{kind(0xff, 0xff, 0), api.ErrForm},
		{kind(append(noughts[:8:8], 0)...), api.ErrForm},
		{kind(append(noughts[:9:9], 0)...), api.ErrForm},
		{kind(append(noughts[:39:39], 0)...), api.ErrForm},
		{kind(append(noughts[:39:39], 1)...), api.ErrLong},
		{kind(append(noughts[:9:9], 1)...), api.ErrLong},
		{append(kind(append(noughts[:9:9], 2)...), make([]byte, 9)...), api.ErrLong},
		{count(api.MaxBytes+1, 0), api.ErrLong},
		{count(api.MaxBytes+1, api.MaxBytes+9), api.ErrLong},
		{count(1<<32, 9), api.ErrLong},
		{count(1<<62, 9), api.ErrLong},
		{count(1<<62+1, 9), api.ErrLong},
		{count(1<<63, 9), api.ErrLong},
		{count(1<<64-1, 9), api.ErrLong},
		{count(api.MaxBytes, 0), api.ErrShort},
		{count(api.MaxBytes, api.MaxBytes+7), api.ErrShort},
		{count(0, 7), api.ErrShort},
		{count(1, 8), api.ErrShort},
		{count(0, 8), api.ErrSum},
		{count(1, 9), api.ErrSum},
		{count(1, 90), api.ErrSum},
		{count(api.MaxBytes, api.MaxBytes+8), api.ErrSum},
	} {
		want := slices.Clone(x.b)
		kind, body, size, e := Next(ended(x.b))
		if e != x.want || kind != 0 || body != nil || size != 0 || !bytes.Equal(x.b, want) {
			t.Error(i, kind, len(body), size, e, "not", x.want)
		}
	}
}

// 4.3: a sealed one that ends too early, at whichever byte, is ErrShort.
func TestNextEndsTooEarly(t *testing.T) {
	for _, n := range []int{0, 1, 5, 127, 128, 200} {
		sealed, _ := Seal(7, bodyOf(n))
		for i := range len(sealed) {
			if kind, body, size, e := Next(ended(sealed[:i])); e != api.ErrShort || kind != 0 || body != nil || size != 0 {
				t.Error(n, i, kind, body, size, e)
			}
		}
	}
}

// 4.3: one behind the other, each from the front.
func TestNextInARow(t *testing.T) {
	var row []byte
	for n := range 200 {
		sealed, _ := Seal(n+1, bodyOf(n))
		row = append(row, sealed...)
	}
	for n := range 200 {
		kind, body, size, e := Next(row)
		if kind != n+1 || !bytes.Equal(body, bodyOf(n)) || e != api.OK {
			t.Fatal(n, kind, len(body), size, e)
		}
		row = row[size:]
	}
	if _, _, _, e := Next(row); e != api.ErrShort {
		t.Error(len(row), e)
	}
}

// Rule 2: sealed ones and bodies are new memory.
func TestSealedAreNew(t *testing.T) {
	body := []byte("body")
	sealed, _ := Seal(3, body)
	want := slices.Clone(sealed)
	clear(body)
	if !bytes.Equal(sealed, want) {
		t.Error("shares memory with what it was made of")
	}
	_, one, size, _ := Next(sealed)
	_, other, _, _ := Next(sealed)
	one = append(one, strings.Repeat("x", 20)...)
	clear(one)
	if !bytes.Equal(sealed, want) || string(other) != "body" || size != len(want) {
		t.Error("a body is not its own", sealed, other)
	}
	clear(sealed)
	if string(other) != "body" {
		t.Error("a body was kept in what was handed in", other)
	}
}

// 4.5: of one byte turned a sealed one is refused, or ends elsewhere; of the body alone: ErrSum.
func TestOneByteTurned(t *testing.T) {
	for _, n := range []int{0, 1, 3, 127, 128, 300} {
		sealed, _ := Seal(200, bodyOf(n))
		head := len(sealed) - n - sumSize
		other, _ := Seal(9, bodyOf(2*n))
		row := append(slices.Clone(sealed), other...)
		for i := range sealed {
			for turn := 1; turn < 256; turn++ {
				b := slices.Clone(row)
				b[i] ^= byte(turn)
				_, _, size, e := Next(b)
				switch {
				case i == 0 && b[0] == 0:
					if e != api.ErrForm {
						t.Error("a kind 0", n, e)
					}
				case i == 0 || i >= head:
					if e != api.ErrSum || size != 0 {
						t.Error(n, i, turn, e, size)
					}
				case e == api.OK && size == len(sealed):
					t.Error("a length", n, i, turn)
				}
			}
		}
	}
}
