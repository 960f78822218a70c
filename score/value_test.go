package score

import (
	"math"
	"math/big"
	"testing"

	"abaculus/api"
	"abaculus/frac"
)

// meanBig is the mean of l.
func meanBig(l []*big.Rat) *big.Rat {
	sum := new(big.Rat)
	for _, a := range l {
		sum.Add(sum, a)
	}
	return sum.Quo(sum, over(int64(len(l)), 1))
}

// offBig is the differences of a and b, each as of turns it.
func offBig(a, b []*big.Rat, of func(d *big.Rat)) []*big.Rat {
	var l []*big.Rat
	for i, x := range a {
		d := new(big.Rat).Sub(x, b[i])
		of(d)
		l = append(l, d)
	}
	return l
}

// square turns d into its square.
func square(d *big.Rat) { d.Mul(d, d) }

// size turns d into its size.
func size(d *big.Rat) { d.Abs(d) }

// spreadBig is the mean of the squares of how far l is from middle.
func spreadBig(l []*big.Rat, middle *big.Rat) *big.Rat {
	var far []*big.Rat
	for _, x := range l {
		d := new(big.Rat).Sub(x, middle)
		far = append(far, d.Mul(d, d))
	}
	return meanBig(far)
}

// tilted turns a difference into its part of Tilt.
func tilted(at *big.Rat) func(d *big.Rat) {
	return func(d *big.Rat) {
		if d.Sign() >= 0 {
			d.Mul(d, at)
			return
		}
		d.Mul(d, new(big.Rat).Sub(at, over(1, 1)))
	}
}

// 9.2: Squares, Sizes, Told and Tilt of lists by chance.
func TestValues(t *testing.T) {
	c := chance(7)
	ats := list("0 1 1/2 0.25 9/10 1/1000000007")
	for n := 1; n < 70; n++ {
		want, got := numbers(c, n), numbers(c, n)
		x, y := bigs(want), bigs(got)
		off := meanBig(offBig(x, y, square))
		if a, e := Squares(want, got); e != api.OK || !holds(a, off) {
			t.Error("Squares", n, a.Text(), e)
		}
		if a, e := Sizes(want, got); e != api.OK || !holds(a, meanBig(offBig(x, y, size))) {
			t.Error("Sizes", n, a.Text(), e)
		}
		for _, at := range ats {
			if a, e := Tilt(want, got, at); e != api.OK || !holds(a, meanBig(offBig(x, y, tilted(toBig(at))))) {
				t.Error("Tilt", n, at.Text(), a.Text(), e)
			}
		}
		far := spreadBig(x, meanBig(x))
		a, e := Told(want, got)
		if far.Sign() == 0 {
			if e != api.ErrZero || !isZero(a) {
				t.Error("Told", n, a.Text(), e)
			}
			continue
		}
		off.Quo(off, far)
		if e != api.OK || !holds(a, off.Sub(over(1, 1), off)) {
			t.Error("Told", n, a.Text(), e)
		}
	}
}

// 9.2: values that are known.
func TestValuesOfSome(t *testing.T) {
	half := q("1/2")
	for _, x := range []struct {
		want, got                    string
		squares, sizes, tilted, told string
	}{
		{"1 2 4", "1 0 1", "13/3", "5/3", "5/6", "-25/14"},
		{"1 2 4", "1 2 4", "0", "0", "0", "1"},
		{"0 1", "1/2 1/2", "1/4", "1/2", "1/4", "0"},
		{"-1 1", "1 -1", "4", "2", "1", "-3"},
		{"1/3 0.5", "0 1", "13/72", "5/12", "5/24", "-25"},
		{"0 0 3", "0 0 0", "3", "1", "1/2", "-1/2"},
	} {
		want, got := list(x.want), list(x.got)
		squares, e1 := Squares(want, got)
		sizes, e2 := Sizes(want, got)
		tilted, e3 := Tilt(want, got, half)
		told, e4 := Told(want, got)
		if e1 != api.OK || e2 != api.OK || e3 != api.OK || e4 != api.OK {
			t.Error(x, e1, e2, e3, e4)
		}
		if squares.Text() != x.squares || sizes.Text() != x.sizes || tilted.Text() != x.tilted || told.Text() != x.told {
			t.Error(x, squares.Text(), sizes.Text(), tilted.Text(), told.Text())
		}
	}
}

// 9.2: Told is ErrZero of numbers that are all alike, in whatever form, however well they are told.
func TestToldOfAlike(t *testing.T) {
	for _, s := range []string{"0", "2", "-1/3", "1/2 0.5 2/4", "5 5 5 5", "1/3 2/6 3/9", "0 0.0 -0.0"} {
		want := list(s)
		for _, got := range [][]frac.Q{want, numbers(chance(8), len(want))} {
			if a, e := Told(want, got); e != api.ErrZero || !isZero(a) {
				t.Error(s, a.Text(), e)
			}
		}
	}
	if a, e := Told(list("1/3 1/3"), list("1/3")); e != api.ErrShape || !isZero(a) {
		t.Error("a shape comes first", a.Text(), e)
	}
	near := list("1 1.00000000000000000000000000000000000001")
	if a, e := Told(near, near); e != api.OK || a.Text() != "1" {
		t.Error("close, but not alike", a.Text(), e)
	}
}

// 9.2: Tilt counts by the side: at where want is not below, 1 less at where it is.
func TestTiltSides(t *testing.T) {
	for _, x := range [][4]string{
		{"3", "1", "1/4", "1/2"}, {"1", "3", "1/4", "3/2"}, {"2", "2", "1/4", "0"},
		{"3", "1", "0", "0"}, {"1", "3", "0", "2"}, {"3", "1", "1", "2"}, {"1", "3", "1", "0"},
		{"1 2 4", "1 0 5", "1/4", "5/12"}, {"-1 -3", "-3 -1", "0.1", "1"},
	} {
		if a, e := Tilt(list(x[0]), list(x[1]), q(x[2])); e != api.OK || a.Text() != x[3] {
			t.Error(x, a.Text(), e)
		}
	}
}

// 9.2: Tilt's errors: of the shape first, then of an at that is not 0 to 1.
func TestTiltRefused(t *testing.T) {
	want, got := list("1 2"), list("2 1")
	for _, s := range []string{"-1", "-1/1000000000000000000000", "2", "1.000000000000000000001", "-7", "100000000000000000000"} {
		if a, e := Tilt(want, got, q(s)); e != api.ErrArg || !isZero(a) {
			t.Error(s, a.Text(), e)
		}
		if a, e := Tilt(want, want, q(s)); e != api.ErrArg || !isZero(a) {
			t.Error(s, a.Text(), e)
		}
		if a, e := Tilt(want, got[:1], q(s)); e != api.ErrShape || !isZero(a) {
			t.Error(s, a.Text(), e)
		}
		if a, e := Tilt(nil, nil, q(s)); e != api.ErrShape || !isZero(a) {
			t.Error(s, a.Text(), e)
		}
	}
}

// 9.2: Brier of rows by chance, whatever their sums.
func TestBrier(t *testing.T) {
	c := chance(9)
	for n := 1; n < 40; n++ {
		many := 1 + c.IntN(15)
		want := classes(c, n, many)
		p := make([][]frac.Q, n)
		var sums []*big.Rat
		for i := range p {
			p[i] = numbers(c, many)
			sum := new(big.Rat)
			for class, x := range bigs(p[i]) {
				if class == want[i] {
					x.Sub(x, over(1, 1))
				}
				sum.Add(sum, x.Mul(x, x))
			}
			sums = append(sums, sum)
		}
		if a, e := Brier(want, p); e != api.OK || !holds(a, meanBig(sums)) {
			t.Error(n, many, a.Text(), e)
		}
	}
}

// 9.2: Brier's values that are known, and its errors: of the shape first, of all rows.
func TestBrierOfSome(t *testing.T) {
	for i, x := range []struct {
		want []int
		p    []string
		text string
		e    api.Errno
	}{
		{[]int{0, 1}, []string{"1/2 1/2", "1/4 3/4"}, "5/16", api.OK},
		{[]int{0}, []string{"1"}, "0", api.OK},
		{[]int{0}, []string{"0"}, "1", api.OK},
		{[]int{1}, []string{"0 1 0"}, "0", api.OK},
		{[]int{2}, []string{"0 1 0"}, "2", api.OK},
		{[]int{1}, []string{"-1 2"}, "2", api.OK},
		{[]int{12}, []string{"0 0 0 0 0 0 0 0 0 0 0 0 1/2"}, "1/4", api.OK},
		{nil, nil, "0", api.ErrShape},
		{[]int{0}, nil, "0", api.ErrShape},
		{nil, []string{"1"}, "0", api.ErrShape},
		{[]int{0, 0}, []string{"1"}, "0", api.ErrShape},
		{[]int{5}, []string{"1", "1 2"}, "0", api.ErrShape},
		{[]int{5, 0}, []string{"1", "1 2"}, "0", api.ErrShape},
		{[]int{-1, 0}, []string{"1 2", "1"}, "0", api.ErrShape},
		{[]int{0, 0, 0}, []string{"1 2", "1 2", "1"}, "0", api.ErrShape},
		{[]int{0, 0}, []string{"", "1"}, "0", api.ErrShape},
		{[]int{0, 0}, []string{"1", ""}, "0", api.ErrShape},
		{[]int{0}, []string{""}, "0", api.ErrArg},
		{[]int{0, 0}, []string{"", ""}, "0", api.ErrArg},
		{[]int{1, 0}, []string{"1", "1"}, "0", api.ErrArg},
		{[]int{0, 1}, []string{"1", "1"}, "0", api.ErrArg},
		{[]int{0, -1}, []string{"1", "1"}, "0", api.ErrArg},
		{[]int{math.MinInt}, []string{"1 2"}, "0", api.ErrArg},
		{[]int{math.MaxInt}, []string{"1 2"}, "0", api.ErrArg},
		{[]int{0, 1, 2}, []string{"1 2", "1 2", "1 2"}, "0", api.ErrArg},
	} {
		var p [][]frac.Q
		for _, s := range x.p {
			p = append(p, list(s))
		}
		if a, e := Brier(x.want, p); e != x.e || a.Text() != x.text {
			t.Error(i, x, a.Text(), e)
		}
	}
}

// 9.4, W1: what is told in another form is the same, digit by digit.
func TestOtherForms(t *testing.T) {
	one, other := list("1/2 3 -0.25 1/3"), list("0.50 6/2 -2/8 100/300")
	got := list("1 2 3 4")
	for i, of := range []func(a, b []frac.Q) (frac.Q, api.Errno){Squares, Sizes, Told} {
		a, e := of(one, got)
		b, f := of(other, got)
		if e != api.OK || f != api.OK || a.Text() != b.Text() {
			t.Error(i, a.Text(), b.Text(), e, f)
		}
	}
}
