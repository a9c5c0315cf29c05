package wire_test

import (
	"bytes"
	"math/big"
	"slices"
	"strings"
	"testing"

	"refrain/api"
	"refrain/wire"
)

// modelPut is a number's form as the document says it, by numbers that have no bound.
func modelPut(n int64) []byte {
	z := new(big.Int).Lsh(big.NewInt(n), 1)
	if n < 0 {
		z.Neg(z).Sub(z, big.NewInt(1))
	}
	var out []byte
	for {
		group := new(big.Int)
		z.DivMod(z, big.NewInt(128), group)
		if z.Sign() == 0 {
			return append(out, byte(group.Int64()))
		}
		out = append(out, byte(group.Int64()+128))
	}
}

// modelInt reads a number as P3.2 says, byte by byte.
func modelInt(b []byte) (int64, int, api.Errno) {
	z := new(big.Int)
	for i := 0; ; i++ {
		switch {
		case i == len(b):
			return 0, 0, api.ErrShort
		case i == 9 && b[i] > 1:
			return 0, 0, api.ErrBytes
		}
		z.Add(z, new(big.Int).Lsh(big.NewInt(int64(b[i]%128)), uint(7*i)))
		switch {
		case b[i] >= 128:
			continue
		case b[i] == 0 && i > 0:
			return 0, 0, api.ErrBytes
		case z.Bit(0) == 0:
			return z.Rsh(z, 1).Int64(), i + 1, api.OK
		}
		z.Add(z, big.NewInt(1)).Rsh(z, 1)
		return z.Neg(z).Int64(), i + 1, api.OK
	}
}

// someInts are numbers around all at which a form gets longer, and around what limits there are.
func someInts() []int64 {
	ns := []int64{0, 7, -7, 300, -300, 12345678901}
	for k := range 64 {
		for d := int64(-2); d <= 2; d++ {
			ns = append(ns, 1<<k+d, -1<<k+d, 3<<k+d)
		}
	}
	for _, limit := range []int64{api.MaxName, api.MaxAttrs, api.MaxStr, 1024, api.MaxTime, api.MaxRecord} {
		ns = append(ns, limit-1, limit, limit+1)
	}
	slices.Sort(ns)
	return slices.Compact(ns)
}

// askInt holds Int of some bytes against the model; what is read has the one form.
func askInt(t *testing.T, b []byte) {
	t.Helper()
	want, size, e := modelInt(b)
	n, k, e2 := wire.Int(b)
	if n != want || k != size || e2 != e {
		t.Fatalf("Int(%x) = %d, %d, %d, want %d, %d, %d", b, n, k, e2, want, size, e)
	}
	if e == api.OK && !bytes.Equal(wire.PutInt(n), b[:k]) {
		t.Fatalf("Int(%x) = %d, which is written %x", b, n, wire.PutInt(n))
	}
}

// TestNumberExamples: P3.1, P3.2, what the document writes out.
func TestNumberExamples(t *testing.T) {
	for _, x := range []struct {
		n    int64
		form string
	}{
		{0, "00"}, {-1, "01"}, {1, "02"}, {-2, "03"}, {63, "7e"}, {-64, "7f"}, {64, "8001"}, {-65, "8101"}, {300, "d804"},
		{8191, "fe7f"}, {-8192, "ff7f"}, {8192, "808001"}, {1<<63 - 1, "feffffffffffffffff01"}, {-1 << 63, "ffffffffffffffffff01"}, {1 << 62, "80808080808080808001"}, {1<<62 - 1, "feffffffffffffff7f"}, {-1 << 62, "ffffffffffffffff7f"},
	} {
		if b := wire.PutInt(x.n); !bytes.Equal(b, unhex(x.form)) {
			t.Errorf("PutInt(%d) = %x, want %s", x.n, b, x.form)
		}
		if n, k, e := wire.Int(unhex(x.form)); n != x.n || k != len(x.form)/2 || e != api.OK {
			t.Errorf("Int(%s) = %d, %d, %d, want %d", x.form, n, k, e, x.n)
		}
	}
	for _, x := range []struct {
		b string
		n int64
		k int
		e api.Errno
	}{
		{"02ff", 1, 1, api.OK}, {"8001", 64, 2, api.OK}, {"0000", 0, 1, api.OK}, {"", 0, 0, api.ErrShort}, {"80", 0, 0, api.ErrShort}, {"ffffffffffffffffff", 0, 0, api.ErrShort},
		{"8000", 0, 0, api.ErrBytes}, {"ff00", 0, 0, api.ErrBytes}, {"808000", 0, 0, api.ErrBytes}, {"80808080808080808000", 0, 0, api.ErrBytes}, {"ffffffffffffffffff00", 0, 0, api.ErrBytes},
		{"ffffffffffffffffff02", 0, 0, api.ErrBytes}, {"ffffffffffffffffff7f", 0, 0, api.ErrBytes}, {"ffffffffffffffffff80", 0, 0, api.ErrBytes}, {"ffffffffffffffffff81", 0, 0, api.ErrBytes}, {"8080808080808080808001", 0, 0, api.ErrBytes}, {strings.Repeat("ff", 10), 0, 0, api.ErrBytes}, {strings.Repeat("80", 100000), 0, 0, api.ErrBytes},
	} {
		if n, k, e := wire.Int(unhex(x.b)); n != x.n || k != x.k || e != x.e {
			t.Errorf("Int(%.60s) = %d, %d, %d, want %d, %d, %d", x.b, n, k, e, x.n, x.k, x.e)
		}
	}
	if n, k, e := wire.Int(nil); n != 0 || k != 0 || e != api.ErrShort {
		t.Errorf("Int(nil) = %d, %d, %d", n, k, e)
	}
}

// TestNumberBack: P3.1, P3.5: each form is the document's and is read as what it was, whatever stands behind; fewer bytes are ErrShort.
func TestNumberBack(t *testing.T) {
	for _, n := range someInts() {
		b := wire.PutInt(n)
		if !bytes.Equal(b, modelPut(n)) {
			t.Errorf("PutInt(%d) = %x, want %x", n, b, modelPut(n))
		}
		for _, tail := range []string{"", "00", "01", "80", "ff", "ffffffffffffffffffffff"} {
			if m, k, e := wire.Int(append(slices.Clone(b), unhex(tail)...)); m != n || k != len(b) || e != api.OK {
				t.Errorf("Int(%x %s) = %d, %d, %d, want %d, %d", b, tail, m, k, e, n, len(b))
			}
		}
		for i := range b {
			if m, k, e := wire.Int(b[:i]); m != 0 || k != 0 || e != api.ErrShort {
				t.Errorf("Int(%x) = %d, %d, %d, want ErrShort", b[:i], m, k, e)
			}
			for c := range 256 {
				d := slices.Clone(b)
				d[i] = byte(c)
				askInt(t, d)
				askInt(t, append(d, byte(c)))
			}
		}
	}
}

// TestIntAnyBytes: P3.2, P3.5: all bytes up to two, and longer ones of the bytes that mean something.
func TestIntAnyBytes(t *testing.T) {
	for a := range 256 {
		askInt(t, []byte{byte(a)})
		for b := range 256 {
			askInt(t, []byte{byte(a), byte(b)})
		}
	}
	some := []byte{0, 1, 2, 0x7f, 0x80, 0xff}
	for size := 3; size <= 6; size++ {
		eachOf(some, make([]byte, 0, size), func(b []byte) { askInt(t, b) })
	}
	for _, fill := range some[4:] {
		front := bytes.Repeat([]byte{fill}, 6)
		for size := 7; size <= 11; size++ {
			eachOf(some, append(make([]byte, 0, size), front...), func(b []byte) { askInt(t, b) })
		}
	}
}

// eachOf asks for all bytes that begin so, go on with some of these, and fill the room.
func eachOf(some, begin []byte, ask func([]byte)) {
	if len(begin) == cap(begin) {
		ask(begin)
		return
	}
	for _, c := range some {
		eachOf(some, append(begin, c), ask)
	}
}
