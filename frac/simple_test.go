package frac

import (
	"testing"

	"abaculus/whole"
)

// simpleByDen goes through each Den from 1 on, to the first of which a multiple is above lo, up to hi.
func simpleByDen(lo, hi Q) Q {
	for d := int64(1); ; d++ {
		last := hi.Mul(Of(d)).Floor()
		first := lo.Mul(Of(d)).Floor().Add(whole.Of(1))
		if first.Cmp(last) > 0 {
			continue
		}
		n := whole.Of(0)
		switch {
		case first.Sign() > 0:
			n = first
		case last.Sign() < 0:
			n = last
		}
		a, _ := Make(n, whole.Of(d))
		return a
	}
}

// 3.5: Simple of all with all of small Den, of both signs; false, if lo is not below hi.
func TestSimpleOfSmall(t *testing.T) {
	var list []Q
	for d := int64(1); d <= 9; d++ {
		for n := -3 * d; n <= 3*d; n++ {
			a, _ := Over(n, d)
			list = append(list, a)
		}
	}
	for _, lo := range list {
		for _, hi := range list {
			got, ok := Simple(lo, hi)
			if lo.Cmp(hi) >= 0 {
				if ok || !isNone(got) {
					t.Fatal(lo.Text(), hi.Text(), got.Text(), ok)
				}
				continue
			}
			if want := simpleByDen(lo, hi); !ok || got.Cmp(want) != 0 {
				t.Fatal(lo.Text(), hi.Text(), got.Text(), want.Text(), ok)
			}
			check(t, "simple", got, toBig(got))
		}
	}
}

// 3.5: Simple of short spans by chance, whose Den is some thousand.
func TestSimpleOfClose(t *testing.T) {
	c := chance(19)
	for i := range 400 {
		lo := c.fraction(12, 1+i%12)
		size := c.fraction(3, 8+i%14).Abs()
		if size.Sign() == 0 {
			continue
		}
		hi := lo.Add(size)
		if got, ok := Simple(lo, hi); !ok || got.Cmp(simpleByDen(lo, hi)) != 0 {
			t.Fatal(lo.Text(), hi.Text(), got.Text(), ok)
		}
	}
}

// 3.5: of a fraction, and less than 1 by twice the square of its Den on each side
// of it, it is the Simple one; at the upper end too, but not at the lower one.
func TestSimpleOfLong(t *testing.T) {
	c := chance(23)
	for i := range 300 {
		a := c.fraction(1+i*5, 2+i*4)
		den, _ := Make(whole.From(false, a.Den()), whole.Of(1))
		off, _ := Of(1).Div(den.Mul(den).Mul(Of(3)))
		lo, hi := a.Sub(off), a.Add(off)
		for _, end := range []Q{hi, a} {
			if got, ok := Simple(lo, end); !ok || got.Cmp(a) != 0 {
				t.Fatal(lo.Text(), end.Text(), got.Text(), ok)
			}
		}
		got, ok := Simple(a, hi)
		if !ok || got.Cmp(a) <= 0 || got.Cmp(hi) > 0 || got.Den().Cmp(a.Den()) <= 0 {
			t.Fatal(a.Text(), hi.Text(), got.Text(), ok)
		}
		check(t, "simple", got, toBig(got))
	}
}

// 3.5: Simple as the document tells it, and at its edges.
func TestSimpleTold(t *testing.T) {
	for _, x := range [][3]string{
		{"1/4", "2/5", "1/3"}, {"0", "1", "1"}, {"0", "1/7", "1/7"}, {"0", "2/7", "1/4"}, {"-1", "0", "0"}, {"-1/7", "0", "0"}, {"-1/2", "5", "0"}, {"-5", "1/9", "0"},
		{"1", "2", "2"}, {"1", "3", "2"}, {"-3", "-1", "-1"}, {"-2", "-1", "-1"}, {"-7/2", "-3", "-3"}, {"-3", "-5/2", "-5/2"}, {"-1/2", "-1/3", "-1/3"}, {"-2/3", "-1/2", "-1/2"}, {"-1/3", "-1/4", "-1/4"},
		{"1/3", "1/2", "1/2"}, {"2", "7/2", "3"}, {"5/2", "29/10", "8/3"}, {"3.14", "3.15", "22/7"}, {"3.1415", "3.1416", "333/106"}, {"-3.15", "-3.14", "-22/7"},
		{"5", "9223372036854775808", "6"}, {"9223372036854775807", "9223372036854775809", "9223372036854775808"}, {"0", "1/9223372036854775808", "1/9223372036854775808"},
	} {
		if got, ok := Simple(q(x[0]), q(x[1])); !ok || got.Cmp(q(x[2])) != 0 {
			t.Error(x, got.Text(), ok)
		}
	}
	for _, a := range numbers() {
		for _, hi := range []Q{a, a.Sub(q("1/1000")), a.Sub(Of(5))} {
			if got, ok := Simple(a, hi); ok || !isNone(got) {
				t.Error(a.Text(), hi.Text(), got.Text(), ok)
			}
		}
	}
}
