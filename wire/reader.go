package wire

import (
	"refrain/api"
	"refrain/schema"
)

// reader reads bytes from the front on. At the first fault it stops for good, so that what reads by it need not ask after each part; what it has read then means nothing.
type reader struct {
	bytes []byte
	at    int // how many bytes have been read
	fault api.Errno
}

// demand finds the fault e, if what is demanded does not hold.
func (r *reader) demand(holds bool, e api.Errno) {
	if r.fault == api.OK && !holds {
		r.fault = e
	}
}

// take is the next n bytes, or none where they are not all there.
func (r *reader) take(n int64) []byte {
	rest := r.bytes[r.at:]
	r.demand(n <= int64(len(rest)), api.ErrShort)
	if r.fault != api.OK {
		return nil
	}
	r.at += int(n)
	return rest[:n]
}

func (r *reader) one() byte {
	b := r.take(1)
	if len(b) == 0 {
		return 0
	}
	return b[0]
}

func (r *reader) oneWithin(least, most byte) byte {
	x := r.one()
	r.demand(least <= x && x <= most, api.ErrBytes)
	return x
}

func (r *reader) number() int64 {
	var z uint64
	for i := range groups {
		x := r.one()
		r.demand(i < groups-1 || x <= lastMost, api.ErrBytes)
		z |= uint64(x%more) << (i * groupBits)
		if x < more {
			r.demand(x != 0 || i == 0, api.ErrBytes)
			break
		}
	}
	return signed(z)
}

func (r *reader) numberWithin(least, most int64) int64 {
	n := r.number()
	r.demand(least <= n && n <= most, api.ErrBytes)
	return n
}

func (r *reader) text(least, most int64) string {
	return string(r.take(r.numberWithin(least, most)))
}

func (r *reader) events() []api.Event {
	var es []api.Event
	for n := r.numberWithin(0, maxBatch); n > 0 && r.fault == api.OK; n-- {
		es = append(es, r.event())
	}
	return es
}

func (r *reader) event() api.Event {
	var e api.Event
	e.Type = r.text(1, api.MaxName)
	r.demand(schema.Name(e.Type), api.ErrBytes)
	e.Time = r.numberWithin(0, api.MaxTime)
	for n := r.numberWithin(0, api.MaxAttrs); n > 0 && r.fault == api.OK; n-- {
		e.Vals = append(e.Vals, r.value())
	}
	return e
}

func (r *reader) value() api.Value {
	v := api.Value{Kind: int(r.oneWithin(api.KInt, api.KBool))}
	switch v.Kind {
	case api.KInt:
		v.Int = r.number()
	case api.KStr:
		v.Str = r.text(0, api.MaxStr)
	case api.KBool:
		v.Bool = r.oneWithin(falseByte, trueByte) == trueByte
	}
	return v
}
