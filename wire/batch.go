package wire

import "refrain/api"

const (
	maxBatch = 1024 // events of a batch

	sumLen   = 4
	shortest = 1 + sumLen // a batch's least bytes: one for how many events, and the sum

	modulus = 65521
)

// Pack writes a batch of events.
func Pack(es ...api.Event) ([]byte, api.Errno) {
	if len(es) > maxBatch {
		return nil, api.ErrLong
	}
	out := PutInt(int64(len(es)))
	for _, e := range es {
		if f := fault(e); f != api.OK {
			return nil, f
		}
		out = appendEvent(out, e)
	}
	if len(out)+sumLen > api.MaxRecord {
		return nil, api.ErrLong
	}
	end := sum(out)
	return append(out, end[:]...), api.OK
}

// Unpack reads a batch.
func Unpack(b []byte) ([]api.Event, api.Errno) {
	switch {
	case len(b) > api.MaxRecord:
		return nil, api.ErrLong
	case len(b) < shortest:
		return nil, api.ErrShort
	}
	ahead, end := b[:len(b)-sumLen], b[len(b)-sumLen:]
	if sum(ahead) != [sumLen]byte(end) {
		return nil, api.ErrSum
	}
	r := reader{bytes: ahead}
	es := r.events()
	r.demand(r.at == len(ahead), api.ErrBytes)
	if r.fault != api.OK {
		return nil, r.fault
	}
	return es, api.OK
}

// sum is Adler-32 of RFC 1950.
func sum(b []byte) [sumLen]byte {
	p, q := 1, 0
	for _, x := range b {
		p = (p + int(x)) % modulus
		q = (q + p) % modulus
	}
	return [sumLen]byte{byte(q >> 8), byte(q), byte(p >> 8), byte(p)}
}
