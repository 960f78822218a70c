package part

import (
	"slices"

	"abaculus/api"
	"abaculus/dice"
)

// Boot is n times one of rows 0 to n - 1 by chance, and those that were never
// drawn; none of an n below 1 or above MaxRows, and nothing is drawn.
func Boot(n int, d *dice.Dice) (bag, out []int) {
	if n < 1 || n > api.MaxRows {
		return nil, nil
	}
	bag = d.Draw(n, n)
	slices.Sort(bag)
	return bag, Rest(n, bag)
}

// Rest is those of 0 to n - 1 that are not in l; none of an n above MaxRows.
func Rest(n int, l []int) []int {
	if n < 1 || n > api.MaxRows {
		return nil
	}
	var taken [api.MaxRows]bool
	for _, row := range l {
		if row >= 0 && row < n {
			taken[row] = true
		}
	}
	var rest []int
	for row, is := range taken[:n] {
		if !is {
			rest = append(rest, row)
		}
	}
	return rest
}
