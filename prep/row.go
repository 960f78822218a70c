package prep

import (
	"abaculus/api"
	"abaculus/frac"
	"abaculus/sheet"
)

// Row is cells as numbers.
func Row(p Plan, cells []sheet.Cell) ([]frac.Q, api.Errno) {
	e := Check(p)
	switch {
	case e != api.OK:
		return nil, e
	case len(cells) != len(p.Cols):
		return nil, api.ErrShape
	}
	for i, c := range p.Cols {
		if !sheet.Right(c, cells[i]) {
			return nil, api.ErrArg
		}
	}
	return rowOf(p, cells), api.OK
}

// Apply is each row of t as numbers.
func Apply(p Plan, t sheet.Sheet) ([][]frac.Q, api.Errno) {
	if e := Check(p); e != api.OK {
		return nil, e
	}
	e := sheet.Check(t)
	switch {
	case e != api.OK:
		return nil, e
	case !sameCols(p.Cols, t.Cols):
		return nil, api.ErrKind
	}
	rows := make([][]frac.Q, len(t.Rows))
	for i, cells := range t.Rows {
		rows[i] = rowOf(p, cells)
	}
	return rows, api.OK
}

// rowOf is cells that may be as numbers.
func rowOf(p Plan, cells []sheet.Cell) []frac.Q {
	row := make([]frac.Q, 0, Width(p))
	for _, u := range p.Uses {
		x := cells[u.Col]
		if x.Lacks {
			x = standIn(u)
		}
		if p.Cols[u.Col].Kind == sheet.Number {
			row = append(row, measured(u, x.Q))
		} else {
			row = append(row, marked(u, x.Word)...)
		}
	}
	return row
}

// measured is a as u measures it.
func measured(u Use, a frac.Q) frac.Q {
	q, _ := a.Sub(u.Shift).Div(u.By) // By is above 0
	return q
}

// marked is a number a word, 1 at that one.
func marked(u Use, word int) []frac.Q {
	marks := make([]frac.Q, u.Width)
	marks[word] = frac.Of(1)
	return marks
}

// Back is the cells that x tells of the columns used; all others lack.
func Back(p Plan, x []frac.Q) ([]sheet.Cell, api.Errno) {
	e := Check(p)
	switch {
	case e != api.OK:
		return nil, e
	case len(x) != Width(p):
		return nil, api.ErrShape
	}
	cells := make([]sheet.Cell, len(p.Cols))
	for i := range cells {
		cells[i].Lacks = true
	}
	for _, u := range p.Uses {
		part := x[:u.Width]
		x = x[u.Width:]
		if p.Cols[u.Col].Kind == sheet.Number {
			cells[u.Col] = sheet.Cell{Q: part[0].Mul(u.By).Add(u.Shift)}
		} else {
			cells[u.Col] = sheet.Cell{Word: greatest(part)}
		}
	}
	return cells, api.OK
}

// greatest is the place of the greatest of x, the first of several.
func greatest(x []frac.Q) int {
	place := 0
	for i, q := range x {
		if q.Cmp(x[place]) > 0 {
			place = i
		}
	}
	return place
}
