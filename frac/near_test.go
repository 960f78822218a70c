package frac

import (
	"math"
	"math/big"
	"testing"

	"abaculus/api"
	"abaculus/whole"
)

// checkNear holds that a's Near is a multiple of 1 by 2^bits, none is nearer, and of two as near it's the even one.
func checkNear(t *testing.T, a Q, bits int) {
	t.Helper()
	got := a.Near(bits)
	scale := new(big.Rat).SetInt(new(big.Int).Lsh(big.NewInt(1), uint(bits)))
	times := new(big.Rat).Mul(toBig(got), scale)
	if !times.IsInt() {
		t.Fatal("no multiple", a.Text(), bits, got.Text())
	}
	off := new(big.Rat).Sub(new(big.Rat).Mul(toBig(a), scale), times)
	switch off.Abs(off).Cmp(big.NewRat(1, 2)) {
	case 1:
		t.Fatal("not the nearest", a.Text(), bits, got.Text())
	case 0:
		if times.Num().Bit(0) == 1 {
			t.Fatal("not the even one", a.Text(), bits, got.Text())
		}
	}
	check(t, "near", got, toBig(got))
}

// 3.5: Near of all, at bits from 0 to MaxBits, and of what is just half between, below it, above it.
func TestNear(t *testing.T) {
	tiny := q("1/1000000000000000000000000000000000000000000000000000000000000000000000000000000000000000")
	for _, bits := range []int{0, 1, 2, 3, 10, 62, 63, 64, 65, 255, api.MaxBits} {
		unit, _ := Make(whole.Of(1), whole.From(false, Of(1).Den().Shift(bits)))
		for _, a := range numbers() {
			checkNear(t, a, bits)
			if got := a.Near(bits); got.Near(bits).Cmp(got) != 0 {
				t.Fatal("not near itself", a.Text(), bits)
			}
		}
		for n := int64(-9); n <= 9; n++ {
			half := unit.Mul(q("1/2")).Mul(Of(n))
			checkNear(t, half, bits)
			checkNear(t, half.Add(tiny), bits)
			checkNear(t, half.Sub(tiny), bits)
		}
	}
	for _, x := range []struct {
		a    string
		bits int
		want string
	}{
		{"5/2", 0, "2"}, {"7/2", 0, "4"}, {"-5/2", 0, "-2"}, {"-7/2", 0, "-4"}, {"1/2", 0, "0"}, {"-1/2", 0, "0"}, {"3/2", 0, "2"},
		{"1/3", 2, "1/4"}, {"3/8", 2, "1/2"}, {"1/8", 2, "0"}, {"-3/8", 2, "-1/2"}, {"9/10", 0, "1"}, {"11/10", 0, "1"}, {"7", 5, "7"}, {"1/1024", 9, "0"}, {"3/1024", 9, "1/256"},
	} {
		if got := q(x.a).Near(x.bits); got.Cmp(q(x.want)) != 0 {
			t.Error(x, got.Text())
		}
	}
}

// 3.5: bits below 0 are taken as 0, those above MaxBits as MaxBits.
func TestNearBeyond(t *testing.T) {
	for _, a := range numbers() {
		for _, bits := range []int{-1, -2, -256, math.MinInt} {
			if a.Near(bits).Cmp(a.Near(0)) != 0 {
				t.Error(a.Text(), bits)
			}
		}
		for _, bits := range []int{257, 258, 512, 1 << 16, 1 << 40, math.MaxInt} {
			if a.Near(bits).Cmp(a.Near(api.MaxBits)) != 0 {
				t.Error(a.Text(), bits)
			}
		}
	}
	third := q("1/3")
	if third.Near(api.MaxBits).Cmp(third.Near(api.MaxBits-1)) == 0 || third.Near(api.MaxBits).Den().Bits() != api.MaxBits+1 {
		t.Error("of so many bits as may be", third.Near(api.MaxBits).Text())
	}
}

// 3.3: Floor is not above, and one more is.
func TestFloor(t *testing.T) {
	for _, a := range numbers() {
		floor := a.Floor()
		low, _ := Make(floor, whole.Of(1))
		if low.Cmp(a) > 0 || low.Add(Of(1)).Cmp(a) <= 0 {
			t.Error(a.Text(), floor.Text())
		}
	}
	for s, want := range map[string]string{"7/2": "3", "-7/2": "-4", "1/2": "0", "-1/2": "-1", "4": "4", "-4": "-4", "1/9": "0", "-1/9223372036854775809": "-1", "18446744073709551617/2": "9223372036854775808"} {
		if got := q(s).Floor().Text(); got != want {
			t.Error(s, got)
		}
	}
}
