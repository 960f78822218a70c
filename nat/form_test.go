package nat

import (
	"bytes"
	"math/big"
	"strings"
	"testing"

	"abaculus/api"
)

// 1.1: a text there and back, at the edges of a group of digits, of a word, and of MaxDigits.
func TestTextThereAndBack(t *testing.T) {
	texts := []string{"0", "1", "9", "10", "18446744073709551615", "18446744073709551616"}
	for n := 1; n <= api.MaxDigits; n++ {
		texts = append(texts, strings.Repeat("9", n), "1"+strings.Repeat("0", n-1), strings.Repeat("7", n-1)+"3")
	}
	for _, s := range texts {
		a, ok := Parse(s)
		if !ok {
			t.Errorf("Parse(%q) is false", s)
		}
		if got := a.Text(); got != s {
			t.Errorf("Parse(%q).Text() is %q", s, got)
		}
		if got := toBig(a).String(); got != s {
			t.Errorf("Parse(%q) is %s", s, got)
		}
	}
}

// 1.1: a text that is no number, or has too many digits, is refused.
func TestParseRefuses(t *testing.T) {
	most := api.MaxDigits
	texts := []string{
		"", "00", "007", "01", "-0", "-1", "+1", " 1", "1 ", "1 2", "\t1", "1\n", "\x00", "1\x00",
		"a", "12a", "a12", "0x10", "1e3", "1.0", "1/2", "1_000", "1,000", "/", ":", "1:", "1/",
		"\u0661", "1\u0662", "\uff11", "\xff", "1\xb2",
		"1" + strings.Repeat("0", most), strings.Repeat("9", most+1), strings.Repeat("0", most),
		strings.Repeat("9", most-1) + "x", strings.Repeat("9", 5000),
	}
	for _, s := range texts {
		if a, ok := Parse(s); ok || !isNone(a) {
			t.Errorf("Parse(%q) is %s, %v", s, a.Text(), ok)
		}
	}
}

// 1.1: long numbers have more than MaxDigits digits, and a Text all the same.
func TestTextOfLong(t *testing.T) {
	for _, n := range []int{18, 19, 20, 37, 38, 39, 75, 76, 77, 200, 303, 304, 305, 1000, 5000} {
		power, _ := Of(10).Pow(n)
		if got := power.Text(); got != "1"+strings.Repeat("0", n) {
			t.Error("10 to the power of", n, got)
		}
		less, _ := power.Sub(Of(1))
		if got := less.Text(); got != strings.Repeat("9", n) {
			t.Error("one less than 10 to the power of", n, got)
		}
	}
	for _, a := range numbers() {
		if got, want := a.Text(), toBig(a).String(); got != want {
			t.Error(got, want)
		}
	}
}

// 1.1: bytes there and back, at lengths on both sides of a word's.
func TestBytesThereAndBack(t *testing.T) {
	for n := range 70 {
		b := make([]byte, n)
		for i := range b {
			b[i] = byte(37*i + 200)
		}
		a := FromBytes(b)
		if got := a.Bytes(); !bytes.Equal(got, b) {
			t.Error(b, got)
		}
		if want := new(big.Int).SetBytes(b); toBig(a).Cmp(want) != 0 {
			t.Error(b, a.Text(), want)
		}
		ahead := append(make([]byte, n%11), b...)
		if got := FromBytes(ahead); got.Cmp(a) != 0 || len(got.Bytes()) != n {
			t.Error("noughts ahead of", b, got.Text())
		}
	}
	for _, b := range [][]byte{nil, {}, {0}, make([]byte, 8), make([]byte, 30)} {
		if a := FromBytes(b); !isNone(a) || len(a.Bytes()) != 0 {
			t.Error(b, a.Text(), a.Bytes())
		}
	}
	for _, x := range []struct {
		a    Nat
		want []byte
	}{
		{Of(1), []byte{1}},
		{Of(255), []byte{255}},
		{Of(256), []byte{1, 0}},
		{Of(1<<64 - 1), bytes.Repeat([]byte{255}, 8)},
		{Of(1).Shift(64), []byte{1, 0, 0, 0, 0, 0, 0, 0, 0}},
		{Of(1).Shift(72), []byte{1, 0, 0, 0, 0, 0, 0, 0, 0, 0}},
	} {
		if got := x.a.Bytes(); !bytes.Equal(got, x.want) {
			t.Error(x.a.Text(), got)
		}
	}
}

// Rule 2: bytes handed in stay as they were and aren't kept; those answered are new.
func TestBytesAreNew(t *testing.T) {
	for _, n := range []int{1, 7, 8, 9, 16, 40} {
		in := bytes.Repeat([]byte{3}, n)
		a := FromBytes(in)
		if !bytes.Equal(in, bytes.Repeat([]byte{3}, n)) {
			t.Error("handed in and changed", in)
		}
		want := a.Text()
		clear(in)
		if a.Text() != want {
			t.Error("kept what was handed in", a.Text(), want)
		}
		out := a.Bytes()
		clear(out)
		if a.Text() != want || a.Bytes()[0] != 3 {
			t.Error("handed out its own bytes", a.Text(), want)
		}
	}
}
