package wire_test

import (
	"bytes"
	"encoding/hex"
	"math"
	"math/rand"
	"slices"
	"strings"
	"testing"

	"refrain/api"
	"refrain/wire"
)

const tickForm = "085469636b0a060118020461620301"

var (
	longName = strings.Repeat("n", api.MaxName)
	longStr  = strings.Repeat("\xff", api.MaxStr)
)

func unhex(s string) []byte {
	b, err := hex.DecodeString(strings.ReplaceAll(s, " ", ""))
	if err != nil {
		panic(err)
	}
	return b
}

func number(n int64) api.Value { return api.Value{Kind: api.KInt, Int: n} }

func str(s string) api.Value { return api.Value{Kind: api.KStr, Str: s} }

func truth(b bool) api.Value { return api.Value{Kind: api.KBool, Bool: b} }

func event(name string, time int64, vals ...api.Value) api.Event {
	return api.Event{Type: name, Time: time, Vals: vals}
}

func tick() api.Event { return event("Tick", 5, number(12), str("ab"), truth(true)) }

func same(a, b api.Event) bool {
	return a.Type == b.Type && a.Time == b.Time && slices.Equal(a.Vals, b.Vals)
}

func sameAll(a, b []api.Event) bool { return slices.EqualFunc(a, b, same) }

func none(e api.Event) bool { return same(e, api.Event{}) }

// times n of a value.
func times(n int, v api.Value) []api.Value { return slices.Repeat([]api.Value{v}, n) }

// rightEvents are events that may be.
func rightEvents() []api.Event {
	es := []api.Event{
		tick(), {Type: "T"}, {Type: "_"}, {Type: "time"}, {Type: "Pattern"}, {Type: longName}, {Type: "Z9_", Vals: []api.Value{}},
		event("T", 63), event("T", 64), event("T", api.MaxTime-1), event("T", api.MaxTime),
		event("Zeros", 0, number(0), str(""), truth(false)), event("Ones", 1, number(-1), str("\x00"), truth(true)),
		event("Full", 9, times(16, truth(true))...), event("Big", api.MaxTime, times(16, str(longStr))...), event(longName, 1, times(16, number(math.MinInt64))...),
	}
	var ints []api.Value
	for _, n := range someInts() {
		ints = append(ints, number(n))
		if n >= 0 && n <= api.MaxTime {
			es = append(es, event("At", n, truth(n%2 == 0)))
		}
	}
	for part := range slices.Chunk(ints, 16) {
		es = append(es, event("Ints", 3, part...))
	}
	for _, n := range []int{1, 2, 31, 32, 62, 63, 64, 65, 127, 128, 129, 255, 256} {
		es = append(es, event("Str", 4, str(strings.Repeat("a", n)), str(longStr[:n]), number(int64(n))))
	}
	for n := range 17 {
		es = append(es, event("N", int64(n), times(n, str("x"))...))
	}
	for c := range 256 {
		es = append(es, event("Byte", 7, str(string([]byte{byte(c)}))))
	}
	return es
}

// modelForm is an event's form as the document says it.
func modelForm(e api.Event) []byte {
	parts := [][]byte{modelPut(int64(len(e.Type))), []byte(e.Type), modelPut(e.Time), modelPut(int64(len(e.Vals)))}
	for _, v := range e.Vals {
		parts = append(parts, []byte{byte(v.Kind)})
		switch {
		case v.Kind == 1:
			parts = append(parts, modelPut(v.Int))
		case v.Kind == 2:
			parts = append(parts, modelPut(int64(len(v.Str))), []byte(v.Str))
		case v.Bool:
			parts = append(parts, []byte{1})
		default:
			parts = append(parts, []byte{0})
		}
	}
	return bytes.Join(parts, nil)
}

// modelRest is what the model has not read yet; it panics with the first fault.
type modelRest []byte

func (b *modelRest) cut(n int) string {
	if n > len(*b) {
		panic(api.ErrShort)
	}
	s := string((*b)[:n])
	*b = (*b)[n:]
	return s
}

func (b *modelRest) num(least, most int64) int64 {
	n, k, e := modelInt(*b)
	if e == api.OK && (n < least || n > most) {
		e = api.ErrBytes
	}
	if e != api.OK {
		panic(e)
	}
	b.cut(k)
	return n
}

func (b *modelRest) byteIn(allowed string) byte {
	s := b.cut(1)
	if !strings.Contains(allowed, s) {
		panic(api.ErrBytes)
	}
	return s[0]
}

func (b *modelRest) event() api.Event {
	const letters = "abcdefghijklmnopqrstuvwxyzABCDEFGHIJKLMNOPQRSTUVWXYZ_"
	words := strings.Fields("PATTERN SEQ PARTITION BY WHERE WITHIN RETURN AND OR NOT TRUE FALSE TYPE INT STR BOOL")
	e := api.Event{Type: b.cut(int(b.num(1, 32)))}
	if strings.Trim(e.Type, letters+"0123456789") != "" || !strings.Contains(letters, e.Type[:1]) || slices.Contains(words, e.Type) {
		panic(api.ErrBytes)
	}
	e.Time = b.num(0, 1<<62)
	for range b.num(0, 16) {
		switch b.byteIn("\x01\x02\x03") {
		case 1:
			e.Vals = append(e.Vals, number(b.num(math.MinInt64, math.MaxInt64)))
		case 2:
			e.Vals = append(e.Vals, str(b.cut(int(b.num(0, 256)))))
		default:
			e.Vals = append(e.Vals, truth(b.byteIn("\x00\x01") == 1))
		}
	}
	return e
}

func modelDecode(b []byte) (e api.Event, n int, f api.Errno) {
	defer func() {
		if x := recover(); x != nil {
			e, n, f = api.Event{}, 0, x.(api.Errno)
		}
	}()
	rest := modelRest(b)
	e = rest.event()
	return e, len(b) - len(rest), api.OK
}

// askDecode holds Decode of some bytes against the model; what is read has the one form.
func askDecode(t *testing.T, b []byte) {
	t.Helper()
	want, size, f := modelDecode(b)
	e, n, f2 := wire.Decode(b)
	if !same(e, want) || n != size || f2 != f {
		t.Fatalf("Decode(%.200x) = %.200v, %d, %d, want %.200v, %d, %d", b, e, n, f2, want, size, f)
	}
	if f != api.OK {
		return
	}
	if again, f := wire.Encode(e); !bytes.Equal(again, b[:n]) || f != api.OK {
		t.Fatalf("Decode(%.200x) = %.200v, which is written %.200x, %d", b, e, again, f)
	}
}

// TestEventExamples: P3.3, P3.4, what the document writes out.
func TestEventExamples(t *testing.T) {
	if b, f := wire.Encode(tick()); hex.EncodeToString(b) != tickForm || f != api.OK {
		t.Errorf("Encode = %x, %d, want %s", b, f, tickForm)
	}
	for _, tail := range []string{"", "00", "ff", tickForm} {
		if e, n, f := wire.Decode(unhex(tickForm + tail)); !same(e, tick()) || n != 15 || f != api.OK {
			t.Errorf("Decode with %s behind = %v, %d, %d", tail, e, n, f)
		}
	}
	zeros := event("Zeros", 0, number(0), str(""), truth(false))
	if b, f := wire.Encode(zeros); hex.EncodeToString(b) != "0a5a65726f730006010002000300" || f != api.OK {
		t.Errorf("Encode(%v) = %x, %d", zeros, b, f)
	}
}

// TestEventBack: P3.3, P3.5: each form is the document's and is read as what it was, whatever stands behind; fewer bytes are ErrShort.
func TestEventBack(t *testing.T) {
	for _, e := range rightEvents() {
		b, f := wire.Encode(e)
		if !bytes.Equal(b, modelForm(e)) || f != api.OK {
			t.Errorf("Encode(%.200v) = %.200x, %d, want %.200x", e, b, f, modelForm(e))
		}
		for _, tail := range []string{"", "00", "01", "80", "ffff", tickForm} {
			if d, n, f := wire.Decode(append(slices.Clone(b), unhex(tail)...)); !same(d, e) || n != len(b) || f != api.OK {
				t.Errorf("Decode(%.200x %s) = %.200v, %d, %d, want %.200v, %d", b, tail, d, n, f, e, len(b))
			}
		}
		for i := range b {
			if d, n, f := wire.Decode(b[:i]); !none(d) || n != 0 || f != api.ErrShort {
				t.Errorf("Decode(%.200x) = %.200v, %d, %d, want ErrShort", b[:i], d, n, f)
			}
		}
	}
}

// wrongNames are types that schema.Name does not take.
func wrongNames() []string {
	return []string{"", "9", "9a", "a-b", " T", "T ", "\x00", "a\x00", "\xff", "T\u00e4", "INT", "SEQ", "PATTERN", "TRUE", "TYPE", longName + "n", strings.Repeat("n", 100000)}
}

// wrongValues are values that value.Valid does not take.
func wrongValues() []api.Value {
	return []api.Value{
		{}, {Kind: 4}, {Kind: -1}, {Kind: 256 + api.KInt}, {Kind: math.MaxInt}, {Kind: math.MinInt}, {Int: 1}, {Str: "a"}, {Bool: true},
		{Kind: api.KInt, Str: "x"}, {Kind: api.KInt, Int: 1, Bool: true}, {Kind: api.KStr, Int: 1}, {Kind: api.KStr, Str: "a", Bool: true}, {Kind: api.KBool, Int: 1}, {Kind: api.KBool, Bool: true, Str: "x"},
		str(longStr + "x"), str(strings.Repeat("a", 100000)),
	}
}

var wrongTimes = []int64{-1, math.MinInt64, api.MaxTime + 1, math.MaxInt64}

func refused(t *testing.T, e api.Event, want api.Errno) {
	t.Helper()
	if b, f := wire.Encode(e); len(b) != 0 || f != want {
		t.Errorf("Encode(%.200v) = %.200x, %d, want %d", e, b, f, want)
	}
}

// TestEncodeRefused: P3.3, P0.2: each fault by itself, and the first of several.
func TestEncodeRefused(t *testing.T) {
	many := [][]api.Value{times(17, truth(true)), times(17, api.Value{}), times(18, number(1)), make([]api.Value, 100000)}
	refused(t, api.Event{}, api.ErrName)
	for _, name := range wrongNames() {
		refused(t, event(name, 5, tick().Vals...), api.ErrName)
		for _, time := range wrongTimes {
			refused(t, event(name, time), api.ErrName)
			refused(t, event(name, time, many[1]...), api.ErrName)
		}
		refused(t, event(name, 5, many[0]...), api.ErrName)
		refused(t, event(name, 5, api.Value{}), api.ErrName)
	}
	for _, time := range wrongTimes {
		refused(t, event("T", time), api.ErrTime)
		refused(t, event("T", time, many[0]...), api.ErrTime)
		refused(t, event("T", time, api.Value{}), api.ErrTime)
	}
	for _, vals := range many {
		refused(t, event("T", 5, vals...), api.ErrLong)
	}
	for _, v := range wrongValues() {
		for n := 1; n <= 16; n++ {
			for at := range n {
				vals := times(n, number(7))
				vals[at] = v
				refused(t, event("T", 5, vals...), api.ErrValue)
			}
		}
	}
}

// TestDecodeFaults: P3.4: each fault by hand, and which one is the first.
func TestDecodeFaults(t *testing.T) {
	name32, name33 := hex.EncodeToString([]byte(longName)), hex.EncodeToString([]byte(longName+"n"))
	str256, str257 := strings.Repeat("61", 256), strings.Repeat("61", 257)
	for _, x := range []struct {
		b string
		f api.Errno
	}{
		{"", api.ErrShort}, {tickForm[:28], api.ErrShort}, {"085469636b0a0601180204616203 02", api.ErrBytes}, {"085469636b0a0601180204616204 01", api.ErrBytes},
		// the name
		{"80", api.ErrShort}, {"8000", api.ErrBytes}, {strings.Repeat("ff", 10), api.ErrBytes}, {"00", api.ErrBytes}, {"01", api.ErrBytes}, {"01540000", api.ErrBytes}, {"42", api.ErrBytes}, {"42" + name33 + "0000", api.ErrBytes}, {"40" + name32 + "0000", api.OK}, {"fe7f", api.ErrBytes}, {"feffffffffffffffff01", api.ErrBytes}, {"ffffffffffffffffff01", api.ErrBytes},
		{"02", api.ErrShort}, {"04 39", api.ErrShort}, {"40" + name32[2:], api.ErrShort}, {"02 39", api.ErrBytes}, {"02 39 0000", api.ErrBytes}, {"02 00 0000", api.ErrBytes}, {"02 ff 0000", api.ErrBytes}, {"06 494e54 0000", api.ErrBytes}, {"06 496e54 0000", api.OK}, {"04 5420 0000", api.ErrBytes},
		// the time
		{"0254", api.ErrShort}, {"0254 80", api.ErrShort}, {"0254 8000", api.ErrBytes}, {"0254 01", api.ErrBytes}, {"0254 01 00", api.ErrBytes}, {"0254 80808080808080808001 00", api.OK}, {"0254 80808080808080808002", api.ErrBytes}, {"0254 82808080808080808001 00", api.ErrBytes}, {"0254 feffffffffffffffff01 00", api.ErrBytes}, {"0254 ffffffffffffffffff01 00", api.ErrBytes},
		// how many values
		{"0254 0a", api.ErrShort}, {"0254 0a 80", api.ErrShort}, {"0254 0a 8000", api.ErrBytes}, {"0254 0a 00", api.OK}, {"0254 0a 01", api.ErrBytes}, {"0254 0a 20" + strings.Repeat("0301", 16), api.OK}, {"0254 0a 22" + strings.Repeat("0301", 17), api.ErrBytes}, {"0254 0a 22", api.ErrBytes}, {"0254 0a feffffffffffffffff01", api.ErrBytes}, {"0254 0a 20" + strings.Repeat("0301", 15), api.ErrShort},
		// a kind
		{"0254 0a 02", api.ErrShort}, {"0254 0a 02 00", api.ErrBytes}, {"0254 0a 02 04", api.ErrBytes}, {"0254 0a 02 81", api.ErrBytes}, {"0254 0a 02 ff 00", api.ErrBytes}, {"0254 0a 04 0300 04", api.ErrBytes}, {"0254 0a 04 0300", api.ErrShort},
		// a number
		{"0254 0a 02 01", api.ErrShort}, {"0254 0a 02 01 ff", api.ErrShort}, {"0254 0a 02 01 8000", api.ErrBytes}, {"0254 0a 02 01 ffffffffffffffffff02", api.ErrBytes}, {"0254 0a 02 01 ffffffffffffffffff01", api.OK},
		// a string
		{"0254 0a 02 02", api.ErrShort}, {"0254 0a 02 02 80", api.ErrShort}, {"0254 0a 02 02 8000", api.ErrBytes}, {"0254 0a 02 02 01", api.ErrBytes}, {"0254 0a 02 02 00", api.OK}, {"0254 0a 02 02 02", api.ErrShort}, {"0254 0a 02 02 04 61", api.ErrShort}, {"0254 0a 02 02 8004" + str256, api.OK}, {"0254 0a 02 02 8004" + str256[2:], api.ErrShort}, {"0254 0a 02 02 8204" + str257, api.ErrBytes}, {"0254 0a 02 02 8204", api.ErrBytes}, {"0254 0a 02 02 feffffffffffffffff01", api.ErrBytes},
		// a truth value
		{"0254 0a 02 03", api.ErrShort}, {"0254 0a 02 03 02", api.ErrBytes}, {"0254 0a 02 03 80", api.ErrBytes}, {"0254 0a 02 03 ff", api.ErrBytes}, {"0254 0a 02 03 00", api.OK},
		// two of them
		{"42 39", api.ErrBytes}, {"02 39 01 22", api.ErrBytes}, {"0254 01 80", api.ErrBytes}, {"0254 0a 04 0302 01", api.ErrBytes}, {"0254 0a 04 0280", api.ErrShort},
	} {
		b := unhex(x.b)
		e, n, f := wire.Decode(b)
		if f != x.f || f == api.OK && n != len(b) || f != api.OK && (!none(e) || n != 0) {
			t.Errorf("Decode(%.100s) = %.200v, %d, %d, want %d", x.b, e, n, f, x.f)
		}
		askDecode(t, b)
	}
	if e, n, f := wire.Decode(nil); !none(e) || n != 0 || f != api.ErrShort {
		t.Errorf("Decode(nil) = %v, %d, %d", e, n, f)
	}
}

// TestDecodeAnyByte: P3.4, P3.5: any byte of a form another one, put in or taken out; and a form that ends anywhere.
func TestDecodeAnyByte(t *testing.T) {
	for _, e := range []api.Event{tick(), {Type: "T"}, event("At_9", api.MaxTime, str(""), number(math.MinInt64), truth(false), str("abc"), number(0)), event(longName, 64, times(16, truth(true))...), event("S", 1, str(longStr), str(strings.Repeat("\x01", 70)))} {
		b := modelForm(e)
		for i := range len(b) + 1 {
			askDecode(t, b[:i])
			askDecode(t, b[i:])
			for c := range 256 {
				askDecode(t, slices.Insert(slices.Clone(b), i, byte(c)))
				askDecode(t, append(slices.Clone(b[:i]), byte(c)))
				if i < len(b) {
					d := slices.Clone(b)
					d[i] = byte(c)
					askDecode(t, d)
					askDecode(t, d[:i+1])
				}
			}
			if i < len(b) {
				askDecode(t, slices.Delete(slices.Clone(b), i, i+1))
			}
		}
	}
}

// TestDecodeAnyParts: P3.4, P3.5, P0.1: parts of forms, right and wrong ones, one behind the other.
func TestDecodeAnyParts(t *testing.T) {
	parts := strings.Fields("00 01 02 03 04 06 20 22 40 42 54 61 7f 80 8000 8001 8004 8204 ff 0254 025400 02540a04 06494e54 085469636b0a 0118 01 0100 0200 02046162 0300 0301 0302 80808080808080808001 82808080808080808001 ffffffffffffffffff01 ffffffffffffffffff02 feffffffffffffffff01")
	source := rand.New(rand.NewSource(3))
	for range 300000 {
		var text strings.Builder
		if source.Intn(2) == 0 {
			text.WriteString("0254")
		}
		for range source.Intn(12) {
			text.WriteString(parts[source.Intn(len(parts))])
		}
		askDecode(t, unhex(text.String()))
	}
}
