package score

import (
	"math"
	"slices"

	"abaculus/api"
	"abaculus/frac"
)

// mostRows is how many rows a table may count.
const mostRows = math.MaxInt32

// Rate is how good answers are of one class: how many of those that were told to
// be of it are, how many of those that are were told to be, and both as one.
type Rate struct {
	Precise, Recall, Both frac.Q
}

// Right is how many are alike, by how many there are.
func Right(want, got []int) (frac.Q, api.Errno) {
	if !fits(want, got) {
		return frac.Q{}, api.ErrShape
	}
	alike := 0
	for i, w := range want {
		if w == got[i] {
			alike++
		}
	}
	return rate(alike, len(want)), api.OK
}

// Table is how often each class, which is its row, was told to be which, which
// is its column.
func Table(want, got []int, classes int) ([][]int, api.Errno) {
	isNone := func(class int) bool { return class < 0 || class >= classes }
	switch {
	case !fits(want, got):
		return nil, api.ErrShape
	case classes < 1 || classes > api.MaxClasses:
		return nil, api.ErrArg
	case slices.ContainsFunc(want, isNone) || slices.ContainsFunc(got, isNone):
		return nil, api.ErrArg
	}
	table := make([][]int, classes)
	for class := range table {
		table[class] = make([]int, classes)
	}
	for i, w := range want {
		table[w][got[i]]++
	}
	return table, api.OK
}

// Rates is the rates of each class of a table.
func Rates(t [][]int) ([]Rate, api.Errno) {
	if e := checkTable(t); e != api.OK {
		return nil, e
	}
	rows, columns := sums(t)
	rates := make([]Rate, len(t))
	for class := range rates {
		right := t[class][class]
		rates[class] = together(rate(right, columns[class]), rate(right, rows[class]))
	}
	return rates, api.OK
}

// checkTable tells what is wrong with t. What is left of mostRows is held, not
// the sum, which might go round.
func checkTable(t [][]int) api.Errno {
	if len(t) == 0 || slices.ContainsFunc(t, func(row []int) bool { return len(row) != len(t) }) {
		return api.ErrShape
	}
	left := mostRows
	for _, row := range t {
		for _, many := range row {
			if many < 0 || many > left {
				return api.ErrArg
			}
			left -= many
		}
	}
	return api.OK
}

// sums is what the rows of a square table and what its columns come to.
func sums(t [][]int) (rows, columns []int) {
	rows, columns = make([]int, len(t)), make([]int, len(t))
	for i, row := range t {
		for j, many := range row {
			rows[i] += many
			columns[j] += many
		}
	}
	return rows, columns
}

// together is the rate of which these are the parts.
func together(precise, recall frac.Q) Rate {
	twice := frac.Of(2).Mul(precise).Mul(recall)
	both, _ := twice.Div(precise.Add(recall))
	return Rate{precise, recall, both}
}
