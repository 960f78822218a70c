package score

import (
	"slices"

	"abaculus/api"
	"abaculus/frac"
)

// Point is which parts are told to be, if all from some number on are: of those
// that are not, and of those that are.
type Point struct {
	False, True frac.Q
}

// counted is how many are not, and how many are.
type counted struct {
	no, yes int64
}

// Curve is the points of by's numbers from the greatest down, behind one of none told.
func Curve(is []bool, by []frac.Q) ([]Point, api.Errno) {
	steps, e := down(is, by)
	if e != api.OK {
		return nil, e
	}
	all := steps[len(steps)-1]
	points := make([]Point, len(steps))
	for i, s := range steps {
		points[i] = Point{rate(s.no, all.no), rate(s.yes, all.yes)}
	}
	return points, api.OK
}

// Area is the part of all pairs of one that is and one that is not that by tells
// right; one that it does not tell counts half. Of those that are not each lies
// below all that are of the steps ahead, and is alike with those of its own: in
// halves that is both steps' counts together.
func Area(is []bool, by []frac.Q) (frac.Q, api.Errno) {
	steps, e := down(is, by)
	if e != api.OK {
		return frac.Q{}, e
	}
	all := steps[len(steps)-1]
	var halves int64
	for i, s := range steps[1:] {
		ahead := steps[i]
		halves += (s.no - ahead.no) * (ahead.yes + s.yes)
	}
	return rate(halves, 2*all.no*all.yes), api.OK
}

// down is, behind a step of none, how many have by at least so great, for each
// number of by from the greatest down.
func down(is []bool, by []frac.Q) ([]counted, api.Errno) {
	if !fits(is, by) {
		return nil, api.ErrShape
	}
	if !slices.Contains(is, true) || !slices.Contains(is, false) {
		return nil, api.ErrNone
	}
	steps := []counted{{}}
	var now counted
	rows := falling(by)
	for i, row := range rows {
		if is[row] {
			now.yes++
		} else {
			now.no++
		}
		if i == len(rows)-1 || by[rows[i+1]].Cmp(by[row]) != 0 {
			steps = append(steps, now)
		}
	}
	return steps, api.OK
}

// falling is the rows of by from the greatest down.
func falling(by []frac.Q) []int {
	rows := make([]int, len(by))
	for row := range rows {
		rows[row] = row
	}
	slices.SortFunc(rows, func(a, b int) int { return by[b].Cmp(by[a]) })
	return rows
}
