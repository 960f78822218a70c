package score

import (
	"math/big"
	"math/rand/v2"
	"slices"
	"testing"

	"abaculus/api"
	"abaculus/frac"
)

// wantCurve is Curve by the chapter's words: each number of by from the greatest
// down, once, and of those with by at least so great how many are and are not.
func wantCurve(is []bool, by []*big.Rat) [][2]*big.Rat {
	downward := slices.Clone(by)
	slices.SortFunc(downward, func(a, b *big.Rat) int { return b.Cmp(a) })
	downward = slices.CompactFunc(downward, func(a, b *big.Rat) bool { return a.Cmp(b) == 0 })
	points := [][2]*big.Rat{{new(big.Rat), new(big.Rat)}}
	for _, least := range downward {
		var told, all [2]int64
		for i, so := range is {
			k := 0
			if so {
				k = 1
			}
			all[k]++
			if by[i].Cmp(least) >= 0 {
				told[k]++
			}
		}
		points = append(points, [2]*big.Rat{over(told[0], all[0]), over(told[1], all[1])})
	}
	return points
}

// wantArea is Area by the chapter's words: of all pairs their mean.
func wantArea(is []bool, by []*big.Rat) *big.Rat {
	var pairs []*big.Rat
	for i, a := range is {
		for j, b := range is {
			if a && !b {
				pairs = append(pairs, over(int64(by[i].Cmp(by[j])+1), 2))
			}
		}
	}
	return meanBig(pairs)
}

// trapezes is the area below the points of a curve.
func trapezes(points []Point) *big.Rat {
	area := new(big.Rat)
	for i := 1; i < len(points); i++ {
		wide := toBig(points[i].False.Sub(points[i-1].False))
		high := toBig(points[i].True.Add(points[i-1].True))
		area.Add(area, wide.Mul(wide, high.Quo(high, over(2, 1))))
	}
	return area
}

// holdCurve holds Curve and Area against the chapter's words, and against each other.
func holdCurve(t *testing.T, is []bool, by []frac.Q) {
	t.Helper()
	points, e := Curve(is, by)
	area, f := Area(is, by)
	if e != api.OK || f != api.OK {
		t.Fatal(is, len(by), e, f)
	}
	want := wantCurve(is, bigs(by))
	if len(points) != len(want) {
		t.Fatal(len(points), "points, not", len(want))
	}
	for i, p := range points {
		if !holds(p.False, want[i][0]) || !holds(p.True, want[i][1]) {
			t.Fatal(is, i, p.False.Text(), p.True.Text(), want[i])
		}
	}
	if !holds(area, wantArea(is, bigs(by))) {
		t.Fatal(is, area.Text())
	}
	if !holds(area, trapezes(points)) {
		t.Fatal("not the area below", is, area.Text())
	}
}

// asked is truths of which one at least is and one is not, and numbers: few or many alike.
func asked(c *rand.Rand, n int) ([]bool, []frac.Q) {
	is, by := marks(c, n), numbers(c, n)
	is[c.IntN(n)] = true
	if !slices.Contains(is, false) {
		is[c.IntN(n)] = false
	}
	if !slices.Contains(is, true) {
		is[0] = !is[0]
		is[n-1] = !is[0]
	}
	if few := 1 + c.IntN(6); c.IntN(2) == 0 {
		for i := range by {
			by[i] = by[c.IntN(min(few, n))]
		}
	}
	return is, by
}

// 9.3, 9.4: Curve and Area of lists by chance.
func TestCurve(t *testing.T) {
	c := chance(10)
	for n := 2; n < 60; n++ {
		for range 12 {
			is, by := asked(c, n)
			holdCurve(t, is, by)
		}
	}
}

// 9.3: all truths of a few rows with all orders of their numbers, alike ones too.
func TestCurveOfFew(t *testing.T) {
	for n := 2; n <= 4; n++ {
		for truths := 1; truths < 1<<n-1; truths++ {
			is := make([]bool, n)
			for i := range is {
				is[i] = truths>>i&1 == 1
			}
			for numbers := range 1 << (2 * n) {
				by := make([]frac.Q, n)
				for i := range by {
					by[i] = frac.Of(int64(numbers>>(2*i)&3 - 1))
				}
				holdCurve(t, is, by)
			}
		}
	}
}

// 9.3: curves and areas that are known.
func TestCurveOfSome(t *testing.T) {
	for _, x := range []struct {
		is       []bool
		by, area string
		points   []string
	}{
		{[]bool{true, false, true, false}, "4 3 3 1", "7/8", []string{"0 0", "0 1/2", "1/2 1", "1 1"}},
		{[]bool{true, false}, "1 0", "1", []string{"0 0", "0 1", "1 1"}},
		{[]bool{false, true}, "5 -5", "0", []string{"0 0", "1 0", "1 1"}},
		{[]bool{false, true, true}, "1/2 2/4 0.5", "1/2", []string{"0 0", "1 1"}},
		{[]bool{true, true, false, false, false}, "0 3 1 2 -1", "2/3", []string{"0 0", "0 1/2", "1/3 1/2", "2/3 1/2", "2/3 1", "1 1"}},
	} {
		points, e := Curve(x.is, list(x.by))
		area, f := Area(x.is, list(x.by))
		if e != api.OK || f != api.OK || area.Text() != x.area {
			t.Error(x, area.Text(), e, f)
		}
		var told []string
		for _, p := range points {
			told = append(told, p.False.Text()+" "+p.True.Text())
		}
		if !slices.Equal(told, x.points) {
			t.Error(x, told)
		}
	}
}

// 9.3: ErrNone, if all are, or none is; a shape comes first.
func TestCurveRefused(t *testing.T) {
	refused := func(is []bool, by []frac.Q, as api.Errno) {
		t.Helper()
		points, e := Curve(is, by)
		area, f := Area(is, by)
		if e != as || f != as || len(points) != 0 || !isZero(area) {
			t.Error(is, len(by), len(points), area.Text(), e, f)
		}
	}
	c := chance(11)
	for n := 1; n < 20; n++ {
		for _, so := range []bool{false, true} {
			is := slices.Repeat([]bool{so}, n)
			refused(is, numbers(c, n), api.ErrNone)
			refused(is, make([]frac.Q, n), api.ErrNone)
			refused(is, numbers(c, n-1), api.ErrShape)
			refused(is, numbers(c, n+1), api.ErrShape)
			refused(append(is, !so), numbers(c, n), api.ErrShape)
		}
	}
	refused(nil, nil, api.ErrShape)
}

// 9.4: what turns by without its order turns neither; what turns its order round turns Area.
func TestOrderAlone(t *testing.T) {
	c := chance(12)
	turns := []func(a frac.Q) frac.Q{
		func(a frac.Q) frac.Q { return a.Mul(q("3/7")).Add(q("-11/5")) },
		func(a frac.Q) frac.Q { return a.Mul(a).Mul(a) },
		func(a frac.Q) frac.Q {
			part, _ := a.Div(a.Abs().Add(frac.Of(1)))
			return part
		},
		func(a frac.Q) frac.Q { return a.Mul(q("100000000000000000000000001")) },
	}
	for n := 2; n < 40; n++ {
		is, by := asked(c, n)
		points, _ := Curve(is, by)
		area, _ := Area(is, by)
		for k, turn := range turns {
			var turned []frac.Q
			for _, a := range by {
				turned = append(turned, turn(a))
			}
			p, e := Curve(is, turned)
			a, f := Area(is, turned)
			if e != api.OK || f != api.OK || !slices.Equal(p, points) || a.Cmp(area) != 0 {
				t.Error(n, k, len(p), len(points), a.Text(), area.Text())
			}
		}
		var round []frac.Q
		for _, a := range by {
			round = append(round, a.Neg())
		}
		if a, _ := Area(is, round); a.Add(area).Text() != "1" {
			t.Error(n, a.Text(), area.Text())
		}
	}
}

// 9.3: the rows' order counts for nothing.
func TestRowsOrder(t *testing.T) {
	c := chance(13)
	for n := 2; n < 40; n++ {
		is, by := asked(c, n)
		points, _ := Curve(is, by)
		area, _ := Area(is, by)
		var other []bool
		var others []frac.Q
		for _, row := range c.Perm(n) {
			other, others = append(other, is[row]), append(others, by[row])
		}
		p, _ := Curve(other, others)
		a, _ := Area(other, others)
		if !slices.Equal(p, points) || a.Cmp(area) != 0 {
			t.Error(n, len(p), len(points), a.Text(), area.Text())
		}
	}
}

// 9.3: of many rows, so that pairs are counted and not gone through.
func TestAreaOfMany(t *testing.T) {
	n := 200000
	is, by := make([]bool, n), make([]frac.Q, n)
	for i := range by {
		is[i] = i%2 == 1
		by[i] = frac.Of(int64(i / 2 % 1000))
	}
	if a, e := Area(is, by); e != api.OK || a.Text() != "1/2" {
		t.Error(a.Text(), e)
	}
	for i := range by {
		by[i] = frac.Of(int64(i))
	}
	want := over(int64(n/2+1), int64(n))
	if a, e := Area(is, by); e != api.OK || !holds(a, want) {
		t.Error(a.Text(), e)
	}
	if p, e := Curve(is, by); e != api.OK || len(p) != n+1 || p[n].False.Text() != "1" || p[n].True.Text() != "1" {
		t.Error(len(p), e)
	}
}

// Rule 2: the points of one answer are new.
func TestPointsAreNew(t *testing.T) {
	is, by := []bool{true, false, true}, list("3 2 1")
	one, _ := Curve(is, by)
	other, _ := Curve(is, by)
	was := slices.Clone(other)
	for i := range one[:cap(one)] {
		one[:cap(one)][i] = Point{frac.Of(-7), frac.Of(-7)}
	}
	if !slices.Equal(other, was) {
		t.Error(other)
	}
}
