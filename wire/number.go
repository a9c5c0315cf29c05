package wire

import "refrain/api"

const (
	groupBits = 7
	more      = 1 << groupBits // added to a group that another one follows
	groups    = 10             // the most that a number has
	lastMost  = 1              // the most that the last of so many groups can be
)

// PutInt writes a number.
func PutInt(n int64) []byte { return appendInt(nil, n) }

// Int reads a number: how many bytes it has.
func Int(b []byte) (int64, int, api.Errno) {
	r := reader{bytes: b}
	n := r.number()
	if r.fault != api.OK {
		return 0, 0, r.fault
	}
	return n, r.at, api.OK
}

func appendInt(out []byte, n int64) []byte {
	z := unsigned(n)
	for ; z >= more; z >>= groupBits {
		out = append(out, byte(z)|more)
	}
	return append(out, byte(z))
}

// unsigned lays the negative numbers between the others, so that the ones near 0 are short on both sides of it.
func unsigned(n int64) uint64 {
	if n < 0 {
		return 2*uint64(-(n+1)) + 1
	}
	return 2 * uint64(n)
}

func signed(z uint64) int64 {
	if z%2 == 1 {
		return -int64(z/2) - 1
	}
	return int64(z / 2)
}
