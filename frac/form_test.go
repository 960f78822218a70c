package frac

import (
	"math/big"
	"strings"
	"testing"

	"abaculus/api"
)

// 3.2: Text is in lowest terms, without a Den of 1.
func TestText(t *testing.T) {
	for _, a := range numbers() {
		if got, want := a.Text(), toBig(a).RatString(); got != want {
			t.Error(got, want)
		}
	}
	for s, want := range map[string]string{"4/2": "2", "-4/2": "-2", "2/4": "1/2", "-10/4": "-5/2", "0/7": "0"} {
		if got := q(s).Text(); got != want {
			t.Error(s, got)
		}
	}
	power, _ := Over(1, 10)
	for range 8 {
		power = power.Mul(power)
	}
	if got := power.Neg().Text(); got != "-1/1"+strings.Repeat("0", 256) {
		t.Error("a long one", got)
	}
}

// 3.2: each form is read, in lowest terms or not, up to MaxDigits digits a part.
func TestParse(t *testing.T) {
	most := api.MaxDigits
	nines, noughts := strings.Repeat("9", most), strings.Repeat("0", most)
	texts := []string{
		"0", "1", "-1", "10", "-907", "9223372036854775808", "-9223372036854775808", nines, "-" + nines,
		"0/1", "0/5", "1/1", "2/4", "-2/4", "6/3", "-6/3", "1/3", "-1/3", "100/10", nines + "/" + nines, "-1/" + nines, nines + "/1", "1/1" + noughts[1:],
		"0.0", "-0.0", "0.5", "0.50", "-0.50", "-0.5", "1.0", "-1.0", "10.25", "-10.25", "0.001", "0.00", "3.14159", "-7.000", "9.99",
		"0." + noughts, "-0." + noughts, "1." + noughts, "0." + nines, "-" + nines + "." + nines, "0." + noughts[1:] + "1", nines + ".5", "5." + noughts[1:] + "7",
	}
	for _, s := range texts {
		want, ok := new(big.Rat).SetString(s)
		if !ok {
			t.Fatal(s)
		}
		got, ok := Parse(s)
		if !ok {
			t.Errorf("Parse(%q) is false", s)
		}
		check(t, s, got, want)
	}
}

// 3.2: another text is refused: other forms, other signs, noughts ahead, too many digits.
func TestParseRefuses(t *testing.T) {
	most := api.MaxDigits
	long := "1" + strings.Repeat("0", most)
	texts := []string{
		"", " ", "-", "+", ".", "/", "-.", "-/", "./", "/.", "--1", "+1", "- 1", " 1", "1 ", "1\n", "\x001", "01", "-01", "00", "-0", "1e3", "1E3", "0x1", "a", "1a", "1_0", "1,5", "Inf", "NaN",
		"1/", "/2", "-/2", "1/0", "0/0", "1/00", "1/-2", "1/+2", "1/02", "01/2", "-0/3", "--1/2", "1//2", "1/2/3", "1/2/", "/1/2", "1 /2", "1/ 2", "1/2 ", "1.5/2", "1/2.5", "1/a", "a/1", "1/-0",
		".5", "-.5", "1.", "-1.", "01.5", "-01.5", "00.5", "1.-5", "1.+5", "+1.5", "--1.5", "1..5", "1.5.", "1.5.5", "1. 5", "1 .5", "1.5 ", "1.5e3", "1.a", "a.1", "0.0x", "0.00 ", "0.0-", "1.0/1", "1/1.0",
		"\u0661", "1/\u0662", "1.\u0663", "\u22121", "1\u20442", "1\uff0e5", "\xff", "1.\xff", "1/\xff",
		long, "-" + long, long + "/1", "1/" + long, "-" + long + "/" + long, long + ".5", "-" + long + ".5", "0." + long, "0." + strings.Repeat("0", most+1), "1." + strings.Repeat("3", 70000),
	}
	for _, s := range texts {
		if a, ok := Parse(s); ok || !isNone(a) {
			t.Errorf("Parse(%.30q) is %s, %v", s, a.Text(), ok)
		}
	}
}
