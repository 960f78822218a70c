package sheet

import (
	"strings"

	"abaculus/api"
)

// Text is t as text, each line ended; else Check's error.
func Text(t Sheet) (string, api.Errno) {
	if e := Check(t); e != api.OK {
		return "", e
	}
	lines := []string{line(each(t.Cols, colText))}
	for _, row := range t.Rows {
		lines = append(lines, line(cellTexts(t.Cols, row)))
	}
	return strings.Join(lines, ""), api.OK
}

// line is the line of these texts.
func line(texts []string) string {
	return strings.Join(texts, between) + lineEnd
}

// colText is c, as it stands in the first line.
func colText(c Col) string {
	if c.Kind == Number {
		return c.Name + string(kindFrom) + numberText
	}
	words := strings.Join(c.Words, string(wordNext))
	return c.Name + string(kindFrom) + choiceText + string(wordsFrom) + words + string(wordsTo)
}

// cellTexts is the cells of row under these columns, as they stand in its line.
func cellTexts(cols []Col, row []Cell) []string {
	texts := make([]string, len(row))
	for i, x := range row {
		texts[i] = cellText(cols[i], x)
	}
	return texts
}

// cellText is x of column c, as it stands in its line.
func cellText(c Col, x Cell) string {
	switch {
	case x.Lacks:
		return lacking
	case c.Kind == Number:
		return x.Q.Text()
	}
	return c.Words[x.Word]
}
