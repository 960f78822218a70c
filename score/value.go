package score

import (
	"slices"

	"abaculus/api"
	"abaculus/frac"
)

// Squares is the mean of the squares of the differences.
func Squares(want, got []frac.Q) (frac.Q, api.Errno) {
	return mean(want, got, func(w, g frac.Q) frac.Q {
		off := w.Sub(g)
		return off.Mul(off)
	})
}

// Sizes is the mean of the sizes of the differences.
func Sizes(want, got []frac.Q) (frac.Q, api.Errno) {
	return mean(want, got, func(w, g frac.Q) frac.Q { return w.Sub(g).Abs() })
}

// Told is how much of what makes want differ is told by got: 1 if all is, 0 if
// no more than by want's mean.
func Told(want, got []frac.Q) (frac.Q, api.Errno) {
	off, e := Squares(want, got)
	if e != api.OK {
		return frac.Q{}, e
	}
	left, ok := off.Div(spread(want))
	if !ok {
		return frac.Q{}, api.ErrZero
	}
	return frac.Of(1).Sub(left), api.OK
}

// spread is the mean of the squares of how far l is from its mean: the mean of its
// squares less its mean's square. So the mean, which may be long, is squared once.
func spread(l []frac.Q) frac.Q {
	squares, _ := mean(l, l, frac.Q.Mul)
	middle, _ := frac.Mean(l)
	return squares.Sub(middle.Mul(middle))
}

// Tilt is the mean of the sizes of the differences, at times of one that is told
// too low, 1 less at times of one that is told too high.
func Tilt(want, got []frac.Q, at frac.Q) (frac.Q, api.Errno) {
	over := at.Sub(frac.Of(1))
	if fits(want, got) && (at.Sign() < 0 || over.Sign() > 0) {
		return frac.Q{}, api.ErrArg
	}
	return mean(want, got, func(w, g frac.Q) frac.Q {
		off := w.Sub(g)
		if off.Sign() < 0 {
			return over.Mul(off)
		}
		return at.Mul(off)
	})
}

// Brier is the mean of how far each row of p, in squares, is from the row that is
// 1 at what is wanted of it, and else 0.
func Brier(want []int, p [][]frac.Q) (frac.Q, api.Errno) {
	if !fits(want, p) {
		return frac.Q{}, api.ErrShape
	}
	classes := len(p[0])
	switch {
	case slices.ContainsFunc(p, func(row []frac.Q) bool { return len(row) != classes }):
		return frac.Q{}, api.ErrShape
	case slices.ContainsFunc(want, func(class int) bool { return class < 0 || class >= classes }):
		return frac.Q{}, api.ErrArg
	}
	return mean(want, p, missed)
}

// missed is the sum of the squares of row less 1 at class, less 0 else.
func missed(class int, row []frac.Q) frac.Q {
	off := slices.Clone(row)
	off[class] = off[class].Sub(frac.Of(1))
	sum, _ := frac.Dot(off, off)
	return sum
}
