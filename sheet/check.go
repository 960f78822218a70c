package sheet

import (
	"slices"

	"abaculus/api"
)

// Check is the first error of t, its columns ahead of its rows.
func Check(t Sheet) api.Errno {
	if len(t.Cols) < 1 || len(t.Cols) > api.MaxCols {
		return api.ErrShape
	}
	e := firstError(t.Cols, func(place int, c Col) api.Errno {
		return checkCol(t.Cols[:place], c)
	})
	switch {
	case e != api.OK:
		return e
	case len(t.Rows) > api.MaxRows:
		return api.ErrLong
	}
	return firstError(t.Rows, func(_ int, row []Cell) api.Errno {
		return checkRow(t.Cols, row)
	})
}

// firstError is the error of the first element that has one.
func firstError[T any](list []T, check func(place int, x T) api.Errno) api.Errno {
	for i, x := range list {
		if e := check(i, x); e != api.OK {
			return e
		}
	}
	return api.OK
}

// checkCol is the first error of c behind those ahead of it.
func checkCol(ahead []Col, c Col) api.Errno {
	switch {
	case !isNamed(c):
		return api.ErrName
	case !isOfKind(c):
		return api.ErrKind
	case isAgain(ahead, c):
		return api.ErrIs
	}
	return api.OK
}

// checkRow is the first error of row under these columns.
func checkRow(cols []Col, row []Cell) api.Errno {
	if len(row) != len(cols) {
		return api.ErrShape
	}
	return firstError(row, func(place int, x Cell) api.Errno {
		if !Right(cols[place], x) {
			return api.ErrArg
		}
		return api.OK
	})
}

// Right tells whether x may stand in column c.
func Right(c Col, x Cell) bool {
	switch {
	case c.Kind != Number && c.Kind != Choice:
		return false
	case x.Lacks:
		return x.Q.Sign() == 0 && x.Word == 0
	case c.Kind == Number:
		return x.Word == 0
	}
	return x.Q.Sign() == 0 && x.Word >= 0 && x.Word < len(c.Words)
}

// isNamed tells whether c's name and all its words are names.
func isNamed(c Col) bool {
	return isName(c.Name) && !slices.ContainsFunc(c.Words, isNoName)
}

// isNoName tells whether s is none.
func isNoName(s string) bool {
	return !isName(s)
}

// isName tells whether s is 1 to MaxName bytes: a letter, then letters, digits, "_".
func isName(s string) bool {
	if s == "" || len(s) > api.MaxName || !isLetter(s[0]) {
		return false
	}
	for i := range len(s) {
		if !isLetter(s[i]) && !isDigit(s[i]) && s[i] != '_' {
			return false
		}
	}
	return true
}

// isLetter tells whether b is one that a name may begin with.
func isLetter(b byte) bool {
	return b >= 'a' && b <= 'z' || b >= 'A' && b <= 'Z'
}

// isDigit tells whether b is one.
func isDigit(b byte) bool {
	return b >= '0' && b <= '9'
}

// isOfKind tells whether c has a kind, and as many words as that has.
func isOfKind(c Col) bool {
	switch c.Kind {
	case Number:
		return len(c.Words) == 0
	case Choice:
		return len(c.Words) >= 1 && len(c.Words) <= api.MaxWords
	}
	return false
}

// isAgain tells whether c's name, or within it a word, was there already.
func isAgain(ahead []Col, c Col) bool {
	_, ok := Column(Sheet{Cols: ahead}, c.Name)
	return ok || hasTwice(c.Words)
}

// hasTwice tells whether one of these words was there already.
func hasTwice(words []string) bool {
	for i, word := range words {
		if slices.Contains(words[:i], word) {
			return true
		}
	}
	return false
}
