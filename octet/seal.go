package octet

import "abaculus/api"

const (
	sumStart = 14695981039346656037
	sumTimes = 1099511628211
	sumSize  = 8 // so many bytes a Sum has
	mostKind = 255
)

// Sum is FNV-1a of 64 bits of b.
func Sum(b []byte) uint64 {
	var sum uint64 = sumStart
	for _, c := range b {
		sum = (sum ^ uint64(c)) * sumTimes
	}
	return sum
}

// Seal is body with its kind and its length ahead, and the Sum of all that
// behind it: ErrArg, if kind is not 1 to 255; ErrLong, if body has more than
// MaxBytes bytes.
func Seal(kind int, body []byte) ([]byte, api.Errno) {
	if kind < 1 || kind > mostKind {
		return nil, api.ErrArg
	}
	if len(body) > api.MaxBytes {
		return nil, api.ErrLong
	}
	sealed := make([]byte, 0, 1+mostSize+len(body)+sumSize)
	sealed = append(sealed, byte(kind))
	sealed = appendCount(sealed, uint64(len(body)))
	sealed = append(sealed, body...)
	sealed = appendWord(sealed, Sum(sealed))
	return sealed[:len(sealed):len(sealed)], api.OK
}

// Next is the sealed one that b begins with, and how many bytes it has. Where
// there is none, it tells the first thing that is wrong, from the front on.
func Next(b []byte) (kind int, body []byte, size int, e api.Errno) {
	if len(b) == 0 {
		return 0, nil, 0, api.ErrShort
	}
	if b[0] == 0 {
		return 0, nil, 0, api.ErrForm
	}
	n, behind, e := cutCount(b[1:])
	switch {
	case e != api.OK:
		return 0, nil, 0, e
	case n > api.MaxBytes:
		return 0, nil, 0, api.ErrLong
	case len(behind) < int(n)+sumSize:
		return 0, nil, 0, api.ErrShort
	}
	body, behind = cut(behind, int(n))
	sum, behind := cut(behind, sumSize)
	size = len(b) - len(behind)
	if word(sum) != Sum(b[:size-sumSize]) {
		return 0, nil, 0, api.ErrSum
	}
	return int(b[0]), fresh(body), size, api.OK
}

// appendWord appends the bytes of n, the highest first.
func appendWord(b []byte, n uint64) []byte {
	for i := range sumSize {
		b = append(b, byte(n>>(8*(sumSize-1-i))))
	}
	return b
}

// word is the number of these bytes, the highest first.
func word(b []byte) uint64 {
	var n uint64
	for _, c := range b {
		n = n<<8 | uint64(c)
	}
	return n
}
