package dice

import (
	"abaculus/frac"
	"abaculus/nat"
	"abaculus/whole"
)

const wordBits = 64

// Pick is a place of w, each as likely as its weight says; false, if one of
// them is below 0, or their sum is 0, and nothing is drawn.
func (d *Dice) Pick(w []frac.Q) (int, bool) {
	for _, x := range w {
		if x.Sign() < 0 {
			return 0, false
		}
	}
	all := frac.Sum(w)
	if all.Sign() == 0 {
		return 0, false
	}
	return firstAbove(w, share(d.Next()).Mul(all)), true
}

// share is u by 2^64: how far it is on the way through all words.
func share(u uint64) frac.Q {
	words := nat.Of(1).Shift(wordBits)
	q, _ := frac.Make(whole.From(false, nat.Of(u)), whole.From(false, words))
	return q
}

// firstAbove is the first place at which the sum of w up to and with it is
// above mark, which is below the sum of all.
func firstAbove(w []frac.Q, mark frac.Q) int {
	place := 0
	for sum := w[0]; sum.Cmp(mark) <= 0; {
		place++
		sum = sum.Add(w[place])
	}
	return place
}
