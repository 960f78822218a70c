package sheet

import (
	"cmp"
	"slices"

	"abaculus/api"
	"abaculus/frac"
)

// Take is the sheet of these rows, in this order.
func Take(t Sheet, rows []int) (Sheet, api.Errno) {
	switch e := Check(t); {
	case e != api.OK:
		return Sheet{}, e
	case slices.ContainsFunc(rows, func(row int) bool { return !isPlace(t.Rows, row) }):
		return Sheet{}, api.ErrArg
	case len(rows) > api.MaxRows:
		return Sheet{}, api.ErrLong
	}
	return fresh(t.Cols, each(rows, func(row int) []Cell { return t.Rows[row] })), api.OK
}

// Without is t without that column.
func Without(t Sheet, col int) (Sheet, api.Errno) {
	switch e := Check(t); {
	case e != api.OK:
		return Sheet{}, e
	case !isPlace(t.Cols, col) || len(t.Cols) == 1:
		return Sheet{}, api.ErrArg
	}
	rows := each(t.Rows, func(row []Cell) []Cell { return cutOut(row, col) })
	return fresh(cutOut(t.Cols, col), rows), api.OK
}

// Add is t's rows, then u's.
func Add(t, u Sheet) (Sheet, api.Errno) {
	switch e := cmp.Or(Check(t), Check(u)); {
	case e != api.OK:
		return Sheet{}, e
	case !sameCols(t, u):
		return Sheet{}, api.ErrKind
	case len(t.Rows)+len(u.Rows) > api.MaxRows:
		return Sheet{}, api.ErrLong
	}
	return fresh(t.Cols, slices.Concat(t.Rows, u.Rows)), api.OK
}

// Numbers is the numbers of that column, row by row.
func Numbers(t Sheet, col int) ([]frac.Q, api.Errno) {
	return values(t, col, Number, func(x Cell) frac.Q { return x.Q })
}

// Choices is the places of the words of that column, row by row.
func Choices(t Sheet, col int) ([]int, api.Errno) {
	return values(t, col, Choice, func(x Cell) int { return x.Word })
}

// values is what the cells of a column of that kind have, row by row.
func values[T any](t Sheet, col, kind int, value func(x Cell) T) ([]T, api.Errno) {
	switch e := Check(t); {
	case e != api.OK:
		return nil, e
	case !isPlace(t.Cols, col):
		return nil, api.ErrArg
	case t.Cols[col].Kind != kind:
		return nil, api.ErrKind
	}
	cells := each(t.Rows, func(row []Cell) Cell { return row[col] })
	if slices.ContainsFunc(cells, func(x Cell) bool { return x.Lacks }) {
		return nil, api.ErrLacks
	}
	return each(cells, value), api.OK
}

// fresh is the sheet of these, each list in memory of its own: one row may stand twice.
func fresh(cols []Col, rows [][]Cell) Sheet {
	return Sheet{
		Cols: each(cols, func(c Col) Col { return Col{c.Name, c.Kind, slices.Clone(c.Words)} }),
		Rows: each(rows, func(row []Cell) []Cell { return slices.Clone(row) }),
	}
}

// each is what f makes of each element, in their order.
func each[T, U any](list []T, f func(x T) U) []U {
	made := make([]U, len(list))
	for i, x := range list {
		made[i] = f(x)
	}
	return made
}

// cutOut is list without the element at that place, in memory of its own.
func cutOut[T any](list []T, place int) []T {
	return slices.Concat(list[:place], list[place+1:])
}

// isPlace tells whether list has an element there.
func isPlace[T any](list []T, place int) bool {
	return place >= 0 && place < len(list)
}
