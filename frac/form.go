package frac

import (
	"strings"

	"abaculus/api"
	"abaculus/nat"
	"abaculus/whole"
)

// Text is a in lowest terms: its numerator, and behind a "/" its denominator, if that is not 1.
func (a Q) Text() string {
	p := a.both()
	if isOne(p.den) {
		return p.num.Text()
	}
	return p.num.Text() + "/" + p.den.Text()
}

// Parse is the fraction that s tells, in lowest terms or not: a whole number, two
// with "/" between, or a decimal; false of another text.
func Parse(s string) (Q, bool) {
	if num, den, ok := strings.Cut(s, "/"); ok {
		return parseOver(num, den)
	}
	if digits, places, ok := strings.Cut(s, "."); ok {
		return parseDecimal(digits, places)
	}
	n, ok := whole.Parse(s)
	return made(n, whole.Of(1)), ok
}

// parseOver is the fraction of these texts.
func parseOver(num, den string) (Q, bool) {
	n, okNum := whole.Parse(num)
	d, okDen := nat.Parse(den)
	if !okNum || !okDen {
		return Q{}, false
	}
	return Make(n, whole.From(false, d))
}

// parseDecimal is the decimal with these texts ahead of its point and behind it.
// A sign is taken off first, as "-0.5" has one, but "-0" is no number.
func parseDecimal(digits, places string) (Q, bool) {
	digits, neg := strings.CutPrefix(digits, "-")
	ahead, okAhead := nat.Parse(digits)
	behind, okBehind := parsePlaces(places)
	if !okAhead || !okBehind {
		return Q{}, false
	}
	scale, _ := nat.Of(10).Pow(len(places))
	return Make(whole.From(neg, ahead.Mul(scale).Add(behind)), whole.From(false, scale))
}

// parsePlaces is the number of 1 to MaxDigits digits, noughts ahead or not.
func parsePlaces(s string) (nat.Nat, bool) {
	if s == "" || len(s) > api.MaxDigits {
		return nat.Nat{}, false
	}
	digits := strings.TrimLeft(s, "0")
	if digits == "" {
		return nat.Nat{}, true
	}
	return nat.Parse(digits)
}
