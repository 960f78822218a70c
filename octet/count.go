package octet

import (
	"slices"

	"abaculus/api"
)

const (
	groupBits = 7
	more      = 1 << groupBits // this bit says that one more group follows
	mostCount = 1 << 62        // a Count above it is refused
	mostSize  = 9              // so many bytes the Count of mostCount has
)

// appendCount appends n in groups of seven bits, the lowest first.
func appendCount(b []byte, n uint64) []byte {
	for n >= more {
		b = append(b, byte(n)|more)
		n >>= groupBits
	}
	return append(b, byte(n))
}

// cutCount takes a Count off the front of b: ErrShort, if it does not end;
// ErrForm, if it is not as few bytes as may be; ErrLong, if it is above mostCount.
func cutCount(b []byte) (n uint64, behind []byte, e api.Errno) {
	last := slices.IndexFunc(b, isLast)
	switch {
	case last < 0:
		return 0, nil, api.ErrShort
	case last > 0 && b[last] == 0:
		return 0, nil, api.ErrForm
	case last >= mostSize:
		return 0, nil, api.ErrLong
	}
	groups, behind := cut(b, last+1)
	for _, c := range slices.Backward(groups) {
		n = n<<groupBits | uint64(c&^more)
	}
	if n > mostCount {
		return 0, nil, api.ErrLong
	}
	return n, behind, api.OK
}

// isLast tells whether no group follows c's.
func isLast(c byte) bool {
	return c < more
}
