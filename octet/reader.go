package octet

import (
	"math"

	"abaculus/api"
	"abaculus/frac"
	"abaculus/nat"
	"abaculus/whole"
)

// Reader takes what a Writer laid, from the front: see chapter 4.
//
// A bad one has no bytes left: so whatever is taken of it then is taken of
// nothing, and no call has to ask first.
type Reader struct {
	left []byte
	bad  bool
}

// NewReader is a Reader of b.
func NewReader(b []byte) *Reader {
	return &Reader{left: fresh(b)}
}

// Count takes a Count of at most so many; else the Reader is bad, and it is 0.
func (r *Reader) Count(most int) int {
	n, behind, e := cutCount(r.left)
	if e != api.OK || most < 0 || n > uint64(most) {
		r.spoil()
		return 0
	}
	r.left = behind
	return int(n)
}

// Whole takes a whole number; 0, if the Reader is bad.
func (r *Reader) Whole() whole.Int {
	head := r.Count(math.MaxInt)
	if head == 1 { // a 0 that is below 0
		r.spoil()
		return whole.Int{}
	}
	return whole.From(head%2 == 1, r.number(head/2))
}

// Frac takes a fraction; 0, if the Reader is bad. Of one that is bad, or gets so
// here, den is 0: so that is told in one place.
func (r *Reader) Frac() frac.Q {
	num := r.Whole()
	den := r.number(r.Count(math.MaxInt))
	a, ok := frac.Make(num, whole.From(false, den))
	if !ok || a.Den().Cmp(den) != 0 { // by 0, or not in lowest terms
		r.spoil()
		return frac.Q{}
	}
	return a
}

// Text takes a text of at most so many bytes; none, if the Reader is bad.
func (r *Reader) Text(most int) string {
	return string(r.take(r.Count(most)))
}

// Bool takes a byte 0 or 1; false, if the Reader is bad.
func (r *Reader) Bool() bool {
	b := r.take(1)
	if len(b) == 0 || b[0] > 1 {
		r.spoil()
		return false
	}
	return b[0] == 1
}

// Left is how many bytes are left; 0, if the Reader is bad.
func (r *Reader) Left() int {
	return len(r.left)
}

// Bad tells whether something was taken that no Writer lays, or that ends too early.
func (r *Reader) Bad() bool {
	return r.bad
}

// number takes a number of n bytes without noughts ahead; 0, if the Reader is bad.
func (r *Reader) number(n int) nat.Nat {
	b := r.take(n)
	if len(b) > 0 && b[0] == 0 {
		r.spoil()
		return nat.Nat{}
	}
	return nat.FromBytes(b)
}

// take takes n bytes; none, if there are not as many.
func (r *Reader) take(n int) []byte {
	if n > len(r.left) {
		r.spoil()
		return nil
	}
	var taken []byte
	taken, r.left = cut(r.left, n)
	return taken
}

// spoil makes the Reader bad.
func (r *Reader) spoil() {
	r.left, r.bad = nil, true
}
