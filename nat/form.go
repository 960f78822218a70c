package nat

import (
	"bytes"
	"strconv"
	"strings"

	"abaculus/api"
)

const (
	wordBytes   = wordBits / 8
	groupDigits = 19                   // so many digits always go into a word
	groupScale  = 10000000000000000000 // 10^groupDigits
	noughts     = "0000000000000000000"
)

// Parse is the number whose Text is s; false, if there is none, or s has more than MaxDigits digits.
func Parse(s string) (Nat, bool) {
	if !isText(s) {
		return Nat{}, false
	}
	var a Nat
	for len(s) > 0 {
		n := min(len(s), groupDigits)
		var group, scale uint64 = 0, 1
		for i := range n {
			group = group*10 + uint64(s[i]-'0')
			scale *= 10
		}
		a = a.Mul(Of(scale)).Add(Of(group))
		s = s[n:]
	}
	return a, true
}

// isText tells whether s is 1 to MaxDigits digits, no nought ahead of others.
func isText(s string) bool {
	if s == "" || len(s) > api.MaxDigits {
		return false
	}
	for i := range len(s) {
		if s[i] < '0' || s[i] > '9' {
			return false
		}
	}
	return s == "0" || s[0] != '0'
}

// Text is a in decimal, no nought ahead.
func (a Nat) Text() string {
	if a.many == nil {
		return strconv.FormatUint(a.one, 10)
	}
	power := Of(groupScale)
	powers := []Nat{power}
	for a.Bits() > 2*(power.Bits()-1) { // else a is surely below power's square
		power = power.Mul(power)
		powers = append(powers, power)
	}
	return strings.TrimLeft(string(a.appendDigits(nil, powers)), "0")
}

// appendDigits appends a, with noughts ahead. Each of powers is the square of
// the one ahead, the first groupScale; a is below the last one's square (below
// groupScale, if there is none): the last one parts its upper half from its lower.
func (a Nat) appendDigits(out []byte, powers []Nat) []byte {
	if len(powers) == 0 {
		digits := strconv.FormatUint(a.one, 10)
		out = append(out, noughts[len(digits):]...)
		return append(out, digits...)
	}
	last := len(powers) - 1
	upper, lower, _ := a.Div(powers[last])
	out = upper.appendDigits(out, powers[:last])
	return lower.appendDigits(out, powers[:last])
}

// FromBytes is the number of these bytes, the highest first.
func FromBytes(b []byte) Nat {
	b = bytes.TrimLeft(b, "\x00")
	words := make([]uint64, (len(b)+wordBytes-1)/wordBytes)
	for i, c := range b {
		place := len(b) - 1 - i
		words[place/wordBytes] |= uint64(c) << (place % wordBytes * 8)
	}
	return made(words)
}

// Bytes is a's bytes, the highest first, as few as may be.
func (a Nat) Bytes() []byte {
	var room [1]uint64
	words := a.words(&room)
	b := make([]byte, (a.Bits()+7)/8)
	for i := range b {
		b[len(b)-1-i] = byte(words[i/wordBytes] >> (i % wordBytes * 8))
	}
	return b
}
