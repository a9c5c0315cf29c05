package wire_test

import (
	"bytes"
	"encoding/hex"
	"hash/adler32"
	"math/rand"
	"reflect"
	"slices"
	"strings"
	"sync"
	"testing"

	"refrain/api"
	"refrain/wire"
)

// summed is some bytes with their sum behind, by the library's Adler-32.
func summed(parts ...[]byte) []byte {
	b := bytes.Join(parts, nil)
	n := adler32.Checksum(b)
	return append(b, byte(n>>24), byte(n>>16), byte(n>>8), byte(n))
}

// modelBatch is a batch's form.
func modelBatch(es []api.Event) []byte {
	parts := [][]byte{modelPut(int64(len(es)))}
	for _, e := range es {
		parts = append(parts, modelForm(e))
	}
	return summed(parts...)
}

func modelUnpack(b []byte) (es []api.Event, f api.Errno) {
	switch {
	case len(b) > 1<<20:
		return nil, api.ErrLong
	case len(b) < 5:
		return nil, api.ErrShort
	case !bytes.Equal(summed(b[:len(b)-4]), b):
		return nil, api.ErrSum
	}
	defer func() {
		if x := recover(); x != nil {
			es, f = nil, x.(api.Errno)
		}
	}()
	rest := modelRest(b[:len(b)-4])
	for range rest.num(0, 1024) {
		es = append(es, rest.event())
	}
	if len(rest) > 0 {
		return nil, api.ErrBytes
	}
	return es, api.OK
}

// askUnpack holds Unpack of some bytes against the model; what is read has the one form.
func askUnpack(t *testing.T, b []byte) {
	t.Helper()
	want, f := modelUnpack(b)
	es, f2 := wire.Unpack(b)
	if !sameAll(es, want) || f2 != f {
		t.Fatalf("Unpack(%.200x) = %.200v, %d, want %.200v, %d", b, es, f2, want, f)
	}
	if f != api.OK {
		return
	}
	if again, f := wire.Pack(es...); !bytes.Equal(again, b) || f != api.OK {
		t.Fatalf("Unpack(%.200x) = %.200v, which is packed %.200x, %d", b, es, again, f)
	}
}

// filled are events whose batch has just so many bytes, of a size near the bound.
func filled(size int) []api.Event {
	full := event("Big", 1, times(16, str(longStr))...)
	most, least, bare := len(modelForm(full)), len(modelForm(event("T", 0))), len(modelForm(event("T", 0)))-1
	var es []api.Event
	left := size - 2 - 4 // how many, and the sum
	for ; left >= most+least; left -= most {
		es = append(es, full)
	}
	for left > 0 {
		n := min(left, bare+api.MaxName)
		if left > n && left < n+least {
			n -= least
		}
		es = append(es, event(longName[:n-bare], 0))
		left -= n
	}
	return es
}

// TestBatchExamples: P3.6, P3.7, what the document writes out.
func TestBatchExamples(t *testing.T) {
	for _, x := range []struct {
		es   []api.Event
		form string
	}{
		{nil, "0000010001"}, {[]api.Event{}, "0000010001"}, {[]api.Event{tick()}, "02085469636b0a06011802046162030117ed028c"},
	} {
		if b, f := wire.Pack(x.es...); hex.EncodeToString(b) != x.form || f != api.OK {
			t.Errorf("Pack(%v) = %x, %d, want %s", x.es, b, f, x.form)
		}
		if es, f := wire.Unpack(unhex(x.form)); !sameAll(es, x.es) || f != api.OK {
			t.Errorf("Unpack(%s) = %v, %d", x.form, es, f)
		}
	}
	if b, f := wire.Pack(); hex.EncodeToString(b) != "0000010001" || f != api.OK {
		t.Errorf("Pack() = %x, %d", b, f)
	}
	if es, f := wire.Unpack(unhex("04085469636b0a06011802046162030117ed028c")); len(es) != 0 || f != api.ErrSum {
		t.Errorf("Unpack of another first byte = %v, %d", es, f)
	}
}

// TestBatchBack: P3.6, P3.8: each batch's form is the document's, and is read as what it was.
func TestBatchBack(t *testing.T) {
	right := rightEvents()
	back := func(es []api.Event) {
		t.Helper()
		b, f := wire.Pack(es...)
		if !bytes.Equal(b, modelBatch(es)) || f != api.OK {
			t.Fatalf("Pack of %d events = %.200x, %d, want %.200x", len(es), b, f, modelBatch(es))
		}
		if got, f := wire.Unpack(b); !sameAll(got, es) || f != api.OK {
			t.Fatalf("Unpack(%.200x) = %.200v, %d, want %.200v", b, got, f, es)
		}
	}
	for i := range right {
		back(right[i : i+1])
		if i%9 == 0 {
			back(right[:i])
			back(right[i:])
		}
	}
	small := slices.Repeat([]api.Event{{Type: "T"}}, 1024)
	for _, n := range []int{1, 2, 63, 64, 65, 1023, 1024} {
		back(small[:n])
	}
	back(slices.Repeat([]api.Event{tick()}, 1024))
}

// TestPackRefused: P3.6, P0.2: each fault by itself, and the first of several.
func TestPackRefused(t *testing.T) {
	refused := func(want api.Errno, es ...api.Event) {
		t.Helper()
		if b, f := wire.Pack(es...); len(b) != 0 || f != want {
			t.Errorf("Pack of %d events = %.200x, %d, want %d", len(es), b, f, want)
		}
	}
	faults := []struct {
		e api.Event
		f api.Errno
	}{{event("9", 1), api.ErrName}, {event("T", -1), api.ErrTime}, {event("T", 1, times(17, number(1))...), api.ErrLong}, {event("T", 1, api.Value{}), api.ErrValue}, {event("INT", -1, times(17, api.Value{})...), api.ErrName}}
	small := slices.Repeat([]api.Event{{Type: "T"}}, 1024)
	big := slices.Repeat([]api.Event{event("Big", 1, times(16, str(longStr))...)}, 1000)
	for _, x := range faults {
		refused(x.f, x.e)
		refused(x.f, tick(), x.e)
		refused(x.f, x.e, tick())
		refused(x.f, append(slices.Clone(small[1:]), x.e)...)
		refused(x.f, append(slices.Clone(big), x.e)...)
		refused(api.ErrLong, append(slices.Clone(small), x.e)...)
		refused(api.ErrLong, append([]api.Event{x.e}, small...)...)
		for _, y := range faults {
			refused(x.f, x.e, y.e)
			refused(x.f, tick(), x.e, tick(), y.e)
		}
	}
	refused(api.ErrLong, append(slices.Clone(small), tick())...)
	refused(api.ErrLong, make([]api.Event, 1025)...)
	refused(api.ErrLong, make([]api.Event, 100000)...)
	refused(api.ErrLong, big...)
}

// TestBatchBound: P3.6, P3.7, P3.8: 2^20 bytes and no more.
func TestBatchBound(t *testing.T) {
	for size := api.MaxRecord - 6; size <= api.MaxRecord+6; size++ {
		es := filled(size)
		whole := modelBatch(es)
		if len(whole) != size || len(es) > 1024 {
			t.Fatalf("the batch has %d bytes, not %d", len(whole), size)
		}
		b, f := wire.Pack(es...)
		got, f2 := wire.Unpack(whole)
		if size > api.MaxRecord {
			if len(b) != 0 || f != api.ErrLong || len(got) != 0 || f2 != api.ErrLong {
				t.Errorf("of %d bytes: Pack %d, Unpack %d, want ErrLong", size, f, f2)
			}
			continue
		}
		if !bytes.Equal(b, whole) || f != api.OK || !sameAll(got, es) || f2 != api.OK {
			t.Errorf("of %d bytes: Pack %d, Unpack %d", size, f, f2)
		}
	}
	for _, size := range []int{api.MaxRecord - 1, api.MaxRecord, api.MaxRecord + 1, 2 * api.MaxRecord} {
		for _, fill := range []byte{0, 1, 0xff} {
			askUnpack(t, bytes.Repeat([]byte{fill}, size))
			askUnpack(t, summed(bytes.Repeat([]byte{fill}, size-4)))
		}
	}
}

// TestUnpackFaults: P3.7: each fault by hand, and which one is the first.
func TestUnpackFaults(t *testing.T) {
	form := unhex(tickForm)
	small := bytes.Repeat(unhex("02540000"), 1100)
	for _, x := range []struct {
		b []byte
		f api.Errno
	}{
		{nil, api.ErrShort}, {unhex("00"), api.ErrShort}, {unhex("00000001"), api.ErrShort}, {unhex("ffffffff"), api.ErrShort}, {unhex("0000000001"), api.ErrSum}, {unhex("0000010001"), api.OK}, {unhex("0000000000"), api.ErrSum}, {unhex("ffffffffff"), api.ErrSum},
		{summed(unhex("80")), api.ErrShort}, {summed(unhex("8000")), api.ErrBytes}, {summed(unhex("ffffffffffffffffff02")), api.ErrBytes}, {summed(unhex("01")), api.ErrBytes}, {summed(unhex("01"), form), api.ErrBytes},
		{summed(unhex("8010")), api.ErrShort}, {summed(unhex("8010"), small[:4096]), api.OK}, {summed(unhex("8010"), small[:4095]), api.ErrShort}, {summed(unhex("8010"), small[:4100]), api.ErrBytes}, {summed(unhex("8210"), small[:4100]), api.ErrBytes}, {summed(unhex("8210")), api.ErrBytes}, {summed(unhex("8110")), api.ErrBytes}, {summed(unhex("feffffffffffffffff01")), api.ErrBytes}, {summed(unhex("ffffffffffffffffff01")), api.ErrBytes},
		{summed(unhex("02")), api.ErrShort}, {summed(unhex("02"), form), api.OK}, {summed(unhex("04"), form), api.ErrShort}, {summed(unhex("04"), form, form), api.OK}, {summed(unhex("04"), form, form[:14]), api.ErrShort}, {summed(unhex("02"), form[:14], unhex("02")), api.ErrBytes}, {summed(unhex("04"), unhex("0239"), form[:9]), api.ErrBytes}, {summed(unhex("04"), form, unhex("02540001")), api.ErrBytes},
		{summed(unhex("0000")), api.ErrBytes}, {summed(unhex("00"), form), api.ErrBytes}, {summed(unhex("02"), form, unhex("00")), api.ErrBytes}, {summed(unhex("02"), form, form), api.ErrBytes}, {summed(unhex("04"), form, unhex("00"), form), api.ErrBytes}, {summed(unhex("02"), summed(form)), api.ErrBytes},
		{append(summed(unhex("02"), form), 0), api.ErrSum}, {summed(unhex("02"), form)[1:], api.ErrSum}, {append(unhex("80"), 0, 0, 0, 0), api.ErrSum},
	} {
		if es, f := wire.Unpack(x.b); f != x.f || f != api.OK && len(es) != 0 {
			t.Errorf("Unpack(%.60x) = %.200v, %d, want %d", x.b, es, f, x.f)
		}
		askUnpack(t, x.b)
	}
	for _, n := range []int{0, 1, 2, 3, 4} {
		askUnpack(t, make([]byte, n))
	}
}

// TestUnpackAnyBytes: P3.7, P3.8: batches with any byte another one, put in or taken out, cut and joined, all with the right sum.
func TestUnpackAnyBytes(t *testing.T) {
	ask := func(b []byte) {
		t.Helper()
		askUnpack(t, summed(b))
		askUnpack(t, b)
	}
	for _, es := range [][]api.Event{nil, {tick()}, {tick(), {Type: "T"}, event("S", 64, str("a"), number(-1))}, slices.Repeat([]api.Event{{Type: "T"}}, 12)} {
		b := modelBatch(es)
		b = b[:len(b)-4]
		for i := range b {
			ask(b[:i])
			ask(b[i:])
			ask(slices.Delete(slices.Clone(b), i, i+1))
			for c := range 256 {
				d := slices.Clone(b)
				d[i] = byte(c)
				ask(d)
				ask(slices.Insert(slices.Clone(b), i, byte(c)))
			}
		}
		for c := range 256 {
			ask(append(slices.Clone(b), byte(c)))
		}
	}
	source := rand.New(rand.NewSource(5))
	parts := strings.Fields("00 01 02 04 80 8000 8010 8210 02540000 02540000 085469636b0a060118020461620301 025400020301 0239 0254 ff")
	for range 60000 {
		var text strings.Builder
		for range source.Intn(7) {
			text.WriteString(parts[source.Intn(len(parts))])
		}
		ask(unhex(text.String()))
	}
}

// damaged asks for a batch's form with the bytes at some places another way.
func damaged(t *testing.T, b []byte) {
	t.Helper()
	if es, f := wire.Unpack(b); len(es) != 0 || f != api.ErrSum {
		t.Fatalf("Unpack(%.100x) of %d bytes = %.200v, %d, want ErrSum", b, len(b), es, f)
	}
}

// TestDamage: P3.9: each byte each other one; each two that stand side by side exchanged.
func TestDamage(t *testing.T) {
	batches := [][]byte{modelBatch(nil), modelBatch([]api.Event{tick()}), modelBatch([]api.Event{event("S", 1, str(longStr), number(-1)), tick(), event("S", 2, str(longStr))}), modelBatch([]api.Event{event(longName, 64, times(16, number(1<<40))...)})}
	for _, b := range batches {
		for i, old := range b {
			for c := range 256 {
				if b[i] = byte(c); byte(c) != old {
					damaged(t, b)
				}
			}
			b[i] = old
		}
		for i := range len(b) - 5 {
			if b[i] != b[i+1] {
				b[i], b[i+1] = b[i+1], b[i]
				damaged(t, b)
				b[i], b[i+1] = b[i+1], b[i]
			}
		}
		if _, f := wire.Unpack(b); f != api.OK {
			t.Fatalf("Unpack(%.100x) = %d", b, f)
		}
	}
	whole := modelBatch(filled(api.MaxRecord))
	for at := 0; at < len(whole)-1; at += 5077 {
		whole[at] ^= 0x81
		damaged(t, whole)
		whole[at] ^= 0x81
	}
}

// TestSumForm: P3.7: of the sum's two numbers only those below 65521 will do, not ones that are 65521 more.
func TestSumForm(t *testing.T) {
	tried := [2]int{}
	for n := range 60 {
		for c := range 256 {
			b := modelBatch([]api.Event{event("T", 0, str(longStr), str(longStr[:n]+string([]byte{byte(c)})))})
			if es, f := wire.Unpack(b); len(es) != 1 || f != api.OK {
				t.Fatalf("Unpack(%.100x) = %.100v, %d", b, es, f)
			}
			for half := range 2 {
				at := len(b) - 4 + 2*half
				if old := int(b[at])<<8 + int(b[at+1]); old < 15 {
					b[at], b[at+1] = byte((old+65521)>>8), byte(old+65521)
					damaged(t, b)
					b[at], b[at+1] = byte(old>>8), byte(old)
					tried[half]++
				}
			}
		}
	}
	if tried[0] == 0 || tried[1] == 0 {
		t.Errorf("no sum was low enough: %v", tried)
	}
}

// spoil writes into an event's list, into its spare room and behind it.
func spoil(e *api.Event) {
	e.Type = "spoilt"
	spare := e.Vals[:cap(e.Vals)]
	for i := range spare {
		spare[i] = str("spoilt")
	}
	e.Vals = append(e.Vals, str("spoilt"))
}

// TestHandedIn: P3.10, P0.3: what is handed in is neither changed nor kept, its spare room neither.
func TestHandedIn(t *testing.T) {
	right := rightEvents()
	room := slices.Concat(right, right)
	vals := append(tick().Vals, number(7), number(8))
	room[0].Vals = vals[:3]
	if _, f := wire.Pack(room[:20]...); f != api.OK || !sameAll(room, slices.Concat(right, right)) || vals[3] != number(7) || vals[4] != number(8) {
		t.Errorf("Pack wrote into the events: %d", f)
	}
	if _, f := wire.Encode(room[0]); f != api.OK || !slices.Equal(vals, append(tick().Vals, number(7), number(8))) {
		t.Errorf("Encode wrote into the values: %v, %d", vals, f)
	}
	for i, e := range right {
		packed := modelBatch(right[:i+1])
		form := modelForm(e)
		b := append(slices.Clone(form), packed...)
		was := slices.Clone(b)
		d, n, f := wire.Decode(b[:len(form)])
		k, m, f2 := wire.Int(b[:1])
		es, f3 := wire.Unpack(b[len(form) : len(form)+len(packed)])
		if f != api.OK || n != len(form) || f2 != api.OK || f3 != api.OK || !bytes.Equal(b, was) {
			t.Fatalf("%d, %d, %d, or the bytes have changed", f, f2, f3)
		}
		for j := range b {
			b[j] ^= 0x55
		}
		if !same(d, e) || !sameAll(es, right[:i+1]) || k != int64(len(e.Type)) || m != 1 {
			t.Fatalf("what was answered has changed with the bytes: %.200v", d)
		}
	}
}

// TestHandedOut: P3.10, P0.3: whoever writes into an answer, or behind it, changes nothing that another call answered, and no other list of the answer.
func TestHandedOut(t *testing.T) {
	right := rightEvents()
	form, _ := wire.Pack(right...)
	whole, _ := wire.Unpack(form)
	again, _ := wire.Unpack(form)
	for i, e := range right {
		b, _ := wire.Encode(e)
		first, _, _ := wire.Decode(b)
		second, _, _ := wire.Decode(b)
		spoil(&first)
		spoil(&whole[i])
		other, _ := wire.Encode(e)
		clear(b[:cap(b)])
		if d, _, f := wire.Decode(other); !same(second, e) || !same(d, e) || f != api.OK {
			t.Fatalf("what Decode or Encode answered is another's: %.200v, %.200v", second, d)
		}
		if !sameAll(whole[i+1:], right[i+1:]) || !sameAll(again, right) {
			t.Fatalf("two lists of one answer share memory, or two answers do")
		}
	}
	clear(whole[:cap(whole)])
	other, _ := wire.Pack(right...)
	clear(form[:cap(form)])
	if es, f := wire.Unpack(other); !sameAll(es, right) || !sameAll(again, right) || f != api.OK {
		t.Errorf("what Pack or Unpack answered is another's")
	}
	a, _ := wire.Pack()
	clear(a[:cap(a)])
	if b, f := wire.Pack(); hex.EncodeToString(b) != "0000010001" || f != api.OK {
		t.Errorf("Pack() = %x, %d", b, f)
	}
	for _, n := range someInts() {
		b := wire.PutInt(n)
		c := wire.PutInt(n)
		clear(b[:cap(b)])
		if !bytes.Equal(c, modelPut(n)) || !bytes.Equal(wire.PutInt(n), c) {
			t.Errorf("what PutInt(%d) answered is another's", n)
		}
	}
}

// TestAlike: P3.10, P0.5: whatever was asked before, and beside, answers are the same.
func TestAlike(t *testing.T) {
	right := slices.Clip(rightEvents())
	play := func() []any {
		var out []any
		for i, e := range append(right, event("9", 1), event("T", -1), event("T", 1, api.Value{})) {
			b, f := wire.Encode(e)
			d, n, f2 := wire.Decode(b)
			p, f3 := wire.Pack(right[i/2 : min(i+1, len(right))]...)
			es, f4 := wire.Unpack(p)
			k, m, f5 := wire.Int(b)
			_, _, f6 := wire.Decode(b[:len(b)/2])
			_, f7 := wire.Unpack(p[1:])
			out = append(out, b, f, d, n, f2, p, f3, es, f4, k, m, f5, f6, f7, wire.PutInt(e.Time))
		}
		return out
	}
	want := play()
	var wait sync.WaitGroup
	for range 8 {
		wait.Go(func() {
			if got := play(); !reflect.DeepEqual(got, want) {
				t.Error("the same calls answer another way")
			}
		})
	}
	wait.Wait()
}
