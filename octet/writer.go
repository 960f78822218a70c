package octet

import (
	"abaculus/frac"
	"abaculus/whole"
)

// Writer lays numbers and texts as bytes, one behind the other: see chapter 4.
type Writer struct {
	laid []byte
}

// NewWriter is a Writer that has no bytes.
func NewWriter() *Writer {
	return &Writer{}
}

// Count lays n, or 0 of an n below it.
func (w *Writer) Count(n int) {
	w.laid = appendCount(w.laid, uint64(max(n, 0)))
}

// Whole lays how many bytes a's size has and its sign in one Count, and these bytes.
func (w *Writer) Whole(a whole.Int) {
	size := a.Abs().Bytes()
	head := 2 * len(size)
	if a.Sign() < 0 {
		head++
	}
	w.Count(head)
	w.laid = append(w.laid, size...)
}

// Frac lays a's numerator, and the bytes of its denominator behind their Count.
func (w *Writer) Frac(a frac.Q) {
	w.Whole(a.Num())
	den := a.Den().Bytes()
	w.Count(len(den))
	w.laid = append(w.laid, den...)
}

// Text lays s behind the Count of its bytes.
func (w *Writer) Text(s string) {
	w.Count(len(s))
	w.laid = append(w.laid, s...)
}

// Bool lays a byte 0 or 1.
func (w *Writer) Bool(b bool) {
	if b {
		w.laid = append(w.laid, 1)
	} else {
		w.laid = append(w.laid, 0)
	}
}

// Bytes is all that was laid so far.
func (w *Writer) Bytes() []byte {
	return fresh(w.laid)
}
