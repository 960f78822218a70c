package prep

import (
	"slices"

	"abaculus/api"
	"abaculus/frac"
	"abaculus/sheet"
)

// Fit is the plan by which these columns of t become numbers, measured in that way.
func Fit(t sheet.Sheet, cols []int, how int) (Plan, api.Errno) {
	bare, e := sheet.Take(t, nil) // t's columns, in memory of the plan's own
	switch {
	case e != api.OK:
		return Plan{}, e
	case how < Plain || how > Spread || !isRising(cols, len(t.Cols)):
		return Plan{}, api.ErrArg
	case len(cols) == 0 || len(t.Rows) == 0:
		return Plan{}, api.ErrShape
	}
	p := Plan{Cols: bare.Cols}
	for _, col := range cols {
		p.Uses = append(p.Uses, Use{Col: col, Width: widthOf(t.Cols[col])})
	}
	if Width(p) > api.MaxCols {
		return Plan{}, api.ErrLong
	}
	for i, u := range p.Uses {
		told := toldOf(t, u.Col)
		switch {
		case len(told) == 0:
			return Plan{}, api.ErrLacks
		case t.Cols[u.Col].Kind == sheet.Choice:
			p.Uses[i].Word = mostOften(told, u.Width)
		default:
			p.Uses[i] = fitNumber(u, told, len(t.Rows), how)
		}
	}
	return p, api.OK
}

// toldOf is the cells of a column that do not lack.
func toldOf(t sheet.Sheet, col int) []sheet.Cell {
	var told []sheet.Cell
	for _, row := range t.Rows {
		if !row[col].Lacks {
			told = append(told, row[col])
		}
	}
	return told
}

// mostOften is the word that stands most often in cells, of so many words.
func mostOften(cells []sheet.Cell, words int) int {
	times := make([]int, words)
	for _, x := range cells {
		times[x.Word]++
	}
	return slices.Index(times, slices.Max(times))
}

// fitNumber is u of a column of that many rows, of which told do not lack.
func fitNumber(u Use, told []sheet.Cell, rows, how int) Use {
	var x []frac.Q
	for _, cell := range told {
		x = append(x, cell.Q)
	}
	u.Fill, _ = frac.Mean(x)
	for len(x) < rows {
		x = append(x, u.Fill)
	}
	// What is filled in is the mean of the others: so it is the mean of all, too.
	u.Shift, u.By = measure(x, u.Fill, how)
	return u
}

// measure is where x, of that mean, is measured from, and by what, in that way.
func measure(x []frac.Q, mean frac.Q, how int) (shift, by frac.Q) {
	switch how {
	case Plain:
		by = frac.Of(1)
	case Range:
		shift = slices.MinFunc(x, frac.Q.Cmp)
		by = slices.MaxFunc(x, frac.Q.Cmp).Sub(shift)
	case Spread:
		shift, by = mean, farness(x, mean)
	}
	if by.Sign() == 0 {
		by = frac.Of(1)
	}
	return shift, by
}

// farness is how far each of x is from their mean, in the mean. Those above it are
// as far from it, together, as those below: so it is twice what the ones above have
// beyond it, and no more than these, which are shorter than what they have beyond
// it, is to be added up one by one.
func farness(x []frac.Q, mean frac.Q) frac.Q {
	var above []frac.Q
	for _, q := range x {
		if q.Cmp(mean) > 0 {
			above = append(above, q)
		}
	}
	beyond := frac.Sum(above).Sub(mean.Mul(frac.Of(int64(len(above)))))
	share, _ := frac.Over(2, int64(len(x)))
	return beyond.Mul(share)
}
