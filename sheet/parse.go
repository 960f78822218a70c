package sheet

import (
	"slices"
	"strings"

	"abaculus/api"
	"abaculus/frac"
)

const (
	lineEnd    = "\n"
	between    = ","
	wordsFrom  = '('
	wordNext   = '|'
	wordsTo    = ')'
	kindFrom   = ':'
	numberText = "number"
	choiceText = "choice"
	lacking    = "?"
)

// Parse is the sheet that s tells; else the first fault of s, line by line.
func Parse(s string) (Sheet, api.Fault) {
	if len(s) > api.MaxText {
		return Sheet{}, api.Fault{Kind: api.ErrLong}
	}
	var t Sheet
	for i, line := range strings.Split(strings.TrimSuffix(s, lineEnd), lineEnd) {
		if f := t.readLine(i, line); f.Kind != api.OK {
			f.Line = i + 1
			return Sheet{}, f
		}
	}
	return t, api.Fault{}
}

// readLine puts what line tells into t: its columns, if it is the first, else a row.
func (t *Sheet) readLine(place int, line string) (f api.Fault) {
	switch {
	case place == 0:
		t.Cols, f = parseCols(line)
	case place > api.MaxRows:
		f.Kind = api.ErrLong
	default:
		var row []Cell
		row, f = parseRow(t.Cols, line)
		t.Rows = append(t.Rows, row)
	}
	return f
}

// parseCols is the columns that line tells, or a fault.
func parseCols(line string) ([]Col, api.Fault) {
	var cols []Col
	for i, s := range strings.Split(line, between) {
		c, e := parseCol(cols, s)
		if e != api.OK {
			return nil, api.Fault{Kind: e, At: i}
		}
		cols = append(cols, c)
	}
	return cols, api.Fault{}
}

// parseCol is the column that s tells behind those ahead of it, or an error.
func parseCol(ahead []Col, s string) (Col, api.Errno) {
	c, ok := scanCol(s)
	switch {
	case !ok || !isNamed(c):
		return Col{}, api.ErrForm
	case len(ahead) >= api.MaxCols || len(c.Words) > api.MaxWords:
		return Col{}, api.ErrLong
	case isAgain(ahead, c):
		return Col{}, api.ErrIs
	}
	return c, api.OK
}

// The states of scanCol: in which part of a column's text it is.
const (
	inName = iota // up to a ":"
	inKind        // up to the end, or a "("
	inWord        // up to a "|", or the ")" behind the last word
	behind        // of which there is nothing
)

// scanCol takes a column's text apart, whatever its names are; false of another
// text. What it answers is of its own, so that no sheet keeps the text it was in.
func scanCol(s string) (Col, bool) {
	var c Col
	state, from := inName, 0
	for i := range len(s) {
		piece := s[from:i]
		switch state {
		case inName:
			if s[i] == kindFrom {
				c.Name = strings.Clone(piece)
				state, from = inKind, i+1
			}
		case inKind:
			if s[i] == wordsFrom && piece == choiceText {
				c.Kind = Choice
				state, from = inWord, i+1
			}
		case inWord:
			if s[i] == wordNext || s[i] == wordsTo {
				c.Words = append(c.Words, strings.Clone(piece))
				from = i + 1
			}
			if s[i] == wordsTo {
				state = behind
			}
		case behind:
			return Col{}, false
		}
	}
	if state == inKind && s[from:] == numberText {
		c.Kind = Number
		state = behind
	}
	return c, state == behind
}

// parseRow is the row that line tells under these columns, or a fault.
func parseRow(cols []Col, line string) ([]Cell, api.Fault) {
	texts := strings.Split(line, between)
	if len(texts) != len(cols) {
		return nil, api.Fault{Kind: api.ErrShape}
	}
	row := make([]Cell, len(cols))
	for i, c := range cols {
		x, e := parseCell(c, texts[i])
		if e != api.OK {
			return nil, api.Fault{Kind: e, At: i}
		}
		row[i] = x
	}
	return row, api.Fault{}
}

// parseCell is the cell that s tells in column c, or an error.
func parseCell(c Col, s string) (Cell, api.Errno) {
	if s == lacking {
		return Cell{Lacks: true}, api.OK
	}
	if c.Kind == Number {
		q, ok := frac.Parse(s)
		if !ok {
			return Cell{}, api.ErrForm
		}
		return Cell{Q: q}, api.OK
	}
	word := slices.Index(c.Words, s)
	if word < 0 {
		return Cell{}, api.ErrName
	}
	return Cell{Word: word}, api.OK
}
