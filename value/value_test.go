package value

import (
	"fmt"
	"math"
	"math/big"
	"strconv"
	"strings"
	"sync"
	"testing"

	"refrain/api"
)

var longStr = strings.Repeat("a", api.MaxStr)

// good are values that may be, rising.
func good() []api.Value {
	return []api.Value{
		number(math.MinInt64), number(math.MinInt64 + 1), number(-7), number(-1), number(0), number(1), number(2), number(10), number(math.MaxInt64 - 1), number(math.MaxInt64),
		text(""), text("\x00"), text("\n"), text(`"`), text("0"), text(`\`), text("a"), text("a\x00"), text(longStr), text("ab"), text("b"), text("\x7f"), text("\xc3\xa4"), text("\xff"),
		truth(false), truth(true),
	}
}

// bad are values that may not be.
func bad() []api.Value {
	return []api.Value{
		{}, {Kind: 4}, {Kind: -1}, {Kind: math.MaxInt}, {Kind: math.MinInt}, {Int: 1}, {Str: "a"}, {Bool: true},
		{Kind: api.KInt, Str: "a"}, {Kind: api.KInt, Int: 1, Str: "a"}, {Kind: api.KInt, Bool: true}, {Kind: api.KInt, Int: 1, Bool: true},
		{Kind: api.KStr, Int: 1}, {Kind: api.KStr, Str: "a", Int: -1}, {Kind: api.KStr, Bool: true}, {Kind: api.KStr, Str: "a", Bool: true},
		{Kind: api.KBool, Int: 1}, {Kind: api.KBool, Bool: true, Int: -1}, {Kind: api.KBool, Str: "x"}, {Kind: api.KBool, Bool: true, Str: "x"},
		text(longStr + "a"), text(strings.Repeat("\xff", 100000)),
	}
}

// TestValid: P1.1.
func TestValid(t *testing.T) {
	for _, v := range good() {
		if !Valid(v) {
			t.Errorf("Valid(%v) = false", v)
		}
	}
	for _, v := range bad() {
		if Valid(v) {
			t.Errorf("Valid(%v) = true", v)
		}
	}
}

// TestShowForms: P1.2, number by number and byte by byte.
func TestShowForms(t *testing.T) {
	for _, x := range []struct {
		v    api.Value
		want string
	}{
		{number(0), "0"}, {number(7), "7"}, {number(-12), "-12"}, {number(100), "100"}, {number(math.MaxInt64), "9223372036854775807"}, {number(math.MinInt64), "-9223372036854775808"},
		{truth(true), "TRUE"}, {truth(false), "FALSE"},
		{text(""), `""`}, {text("TRUE"), `"TRUE"`}, {text("a b"), `"a b"`}, {text("a\"\\\n\t\x00\x7f\xff"), `"a\"\\\n\t\x00\x7f\xff"`}, {text("ä"), `"\xc3\xa4"`}, {text("\r\v\f"), `"\x0d\x0b\x0c"`},
		{text(longStr), `"` + longStr + `"`}, {text(strings.Repeat("\x00", api.MaxStr)), `"` + strings.Repeat(`\x00`, api.MaxStr) + `"`},
	} {
		if s, e := Show(x.v); s != x.want || e != api.OK {
			t.Errorf("Show(%v) = %q, %d, want %q", x.v, s, e, x.want)
		}
	}
	for c := range 256 {
		v := text(string([]byte{byte(c)}))
		want := string([]byte{byte(c)})
		switch {
		case c == '"':
			want = `\"`
		case c == '\\':
			want = `\\`
		case c == 10:
			want = `\n`
		case c == 9:
			want = `\t`
		case c < 0x20 || c > 0x7e:
			want = fmt.Sprintf(`\x%02x`, c)
		}
		if s, e := Show(v); s != `"`+want+`"` || e != api.OK {
			t.Errorf("Show of the byte %d = %q, %d, want it as %q", c, s, e, want)
		}
	}
}

// TestShowRefused: P1.2, values that may not be.
func TestShowRefused(t *testing.T) {
	for _, v := range bad() {
		if s, e := Show(v); s != "" || e != api.ErrValue {
			t.Errorf("Show(%v) = %q, %d, want ErrValue", v, s, e)
		}
	}
}

// TestReadBack: P1.3, each text that Show writes is read as what it was.
func TestReadBack(t *testing.T) {
	vs := good()
	for c := range 256 {
		for _, tail := range []string{"", "n", "x", "00", `"`, `\`} {
			vs = append(vs, text(string([]byte{byte(c)})+tail), text(tail+string([]byte{byte(c)})))
		}
		vs = append(vs, text(strings.Repeat(string([]byte{byte(c)}), api.MaxStr)), number(int64(c)), number(-int64(c)), number(1<<(c%64)), number(1<<(c%64)-1))
	}
	for _, v := range vs {
		s, e := Show(v)
		if e != api.OK {
			t.Fatalf("Show(%v): %d", v, e)
		}
		if w, e := Read(s); w != v || e != api.OK {
			t.Errorf("Read(%q) = %v, %d, want %v", s, w, e, v)
		}
	}
}

// TestReadOneForm: P1.3, what no value is written as.
func TestReadOneForm(t *testing.T) {
	wrong := []string{
		"", " ", "-", "+", "--1", "-0", "+1", "+0", "00", "007", "01", "-01", "1.0", "1e3", "1_000", "0x10", "0b1", "1 ", " 1", "1\n", "1\x00", "٣", "-a", "abc", "nil",
		"true", "True", "tRUE", "TRUE ", " TRUE", "TRU", "TRUEE", "T", "1TRUE", "false", "False", "FALSE\n", "FALS",
		"9223372036854775808", "-9223372036854775809", "18446744073709551616", "18446744073709551617", strings.Repeat("9", 1026), strings.Repeat("0", 1026), strings.Repeat("1", 5000),
		`"`, `a`, `"a`, `a"`, `"a" `, ` "a"`, `"a"b`, `"a""b"`, `"""`, `""""`, `"a"b"`, `'a'`, "`a`",
		`"\"`, `"\\\"`, `"\`, `"\x`, `"\x"`, `"\x0"`, `"\x00`, `"\x0g"`, `"\xg0"`, `"\x+1"`, `"\x 1"`, `"\x_1"`, `"\q"`, `"\r"`, `"\0"`, `"\u0041"`, `"\'"`, `"\N"`, `"\X00"`,
		`"\x41"`, `"\x20"`, `"\x7e"`, `"\x22"`, `"\x5c"`, `"\x0a"`, `"\x0A"`, `"\x09"`, `"\x0B"`, `"\xFF"`, `"\xfF"`,
		"\"\n\"", "\"\t\"", "\"\x00\"", "\"\x7f\"", "\"\xff\"", "\"ä\"",
		`"` + longStr + `a"`, `"` + strings.Repeat(`\x00`, 257) + `"`, `"` + strings.Repeat(`\n`, 257) + `"`, `"` + strings.Repeat("a", 100000) + `"`,
	}
	for _, s := range wrong {
		if v, e := Read(s); v != (api.Value{}) || e != api.ErrValue {
			t.Errorf("Read(%q) = %v, %d, want the zero value and ErrValue", s, v, e)
		}
	}
}

// TestReadAnyText: P1.3 and P0.1, all short texts of the bytes that mean something: read as what shows so, or refused.
func TestReadAnyText(t *testing.T) {
	const bytes = "\"\\nx0a1-TE\x00\xff"
	texts := []string{""}
	for begin, round := 0, 0; round < 5; round++ {
		end := len(texts)
		for _, s := range texts[begin:end] {
			for i := range len(bytes) {
				texts = append(texts, s+bytes[i:i+1])
			}
		}
		begin = end
	}
	read := 0
	for _, s := range texts {
		v, e := Read(s)
		shown, e2 := Show(v)
		switch {
		case e == api.OK && (e2 != api.OK || shown != s):
			t.Fatalf("Read(%q) = %v, which shows as %q", s, v, shown)
		case e != api.OK && (e != api.ErrValue || v != api.Value{}):
			t.Fatalf("Read(%q) = %v, %d", s, v, e)
		case e == api.OK:
			read++
		}
	}
	if want := countTexts(bytes, 5); read != want {
		t.Errorf("%d texts are read, want %d", read, want)
	}
}

// countTexts is how many texts of these bytes, up to that length, are values' texts: counted by the forms, not by Read.
func countTexts(bytes string, most int) int {
	ways := make([]int, most+1) // how many strings' insides there are by length
	ways[0] = 1
	for n := 1; n <= most; n++ {
		for c := range 256 {
			w := quote(string([]byte{byte(c)}))
			w = w[1 : len(w)-1]
			if len(w) <= n && strings.Trim(w, bytes) == "" {
				ways[n] += ways[n-len(w)]
			}
		}
	}
	count := 1 // the number 0
	for n := 0; n+2 <= most; n++ {
		count += ways[n]
	}
	for digits, many := 1, 1; digits <= most; digits, many = digits+1, many*2 {
		count += many // the digits 0 and 1, the first of them 1
		if digits < most {
			count += many
		}
	}
	return count
}

// TestCompareGood: P1.4, of values that may be by kind, then by value.
func TestCompareGood(t *testing.T) {
	vs := good()
	for i, a := range vs {
		for j, b := range vs {
			if c := Compare(a, b); c != sign(i-j) {
				t.Errorf("Compare(%v, %v) = %d, want %d", a, b, c, sign(i-j))
			}
		}
	}
}

func sign(n int) int {
	switch {
	case n < 0:
		return -1
	case n > 0:
		return 1
	}
	return 0
}

// TestCompareAny: P1.4, of all values, field by field.
func TestCompareAny(t *testing.T) {
	var rise []api.Value
	for _, kind := range []int{math.MinInt, -1, 0, api.KInt, api.KStr, api.KBool, 4, math.MaxInt} {
		for _, n := range []int64{math.MinInt64, -1, 0, 1, math.MaxInt64} {
			for _, s := range []string{"", "\x00", "a", longStr + "a", longStr + "aa", "b", "\x80"} {
				for _, b := range []bool{false, true} {
					rise = append(rise, api.Value{Kind: kind, Int: n, Str: s, Bool: b})
				}
			}
		}
	}
	for i, a := range rise {
		for j, b := range rise {
			if c := Compare(a, b); c != sign(i-j) {
				t.Fatalf("Compare(%v, %v) = %d, want %d", a, b, c, sign(i-j))
			}
		}
	}
}

// TestUnary: P1.5.
func TestUnary(t *testing.T) {
	none := api.Value{}
	for _, x := range []struct {
		op   int
		v    api.Value
		want api.Value
		e    api.Errno
	}{
		{api.ONeg, number(5), number(-5), api.OK}, {api.ONeg, number(-5), number(5), api.OK}, {api.ONeg, number(0), number(0), api.OK},
		{api.ONeg, number(math.MaxInt64), number(-math.MaxInt64), api.OK}, {api.ONeg, number(math.MinInt64), number(math.MinInt64), api.OK},
		{api.ONot, truth(true), truth(false), api.OK}, {api.ONot, truth(false), truth(true), api.OK},
		{api.ONeg, text("1"), none, api.ErrKind}, {api.ONeg, truth(true), none, api.ErrKind}, {api.ONot, number(1), none, api.ErrKind}, {api.ONot, text("TRUE"), none, api.ErrKind},
	} {
		if w, e := Unary(x.op, x.v); w != x.want || e != x.e {
			t.Errorf("Unary(%d, %v) = %v, %d, want %v, %d", x.op, x.v, w, e, x.want, x.e)
		}
	}
	for _, v := range bad() {
		for _, op := range []int{api.ONeg, api.ONot} {
			if w, e := Unary(op, v); w != none || e != api.ErrValue {
				t.Errorf("Unary(%d, %v) = %v, %d, want ErrValue", op, v, w, e)
			}
		}
	}
	for _, op := range []int{math.MinInt, -1, 0, 3, 4, 5, 6, 7, 8, 9, 10, 11, 12, 13, 14, 64, math.MaxInt} {
		for _, v := range append(good(), bad()...) {
			if w, e := Unary(op, v); w != none || e != api.ErrOp {
				t.Errorf("Unary(%d, %v) = %v, %d, want ErrOp", op, v, w, e)
			}
		}
	}
}

// model is what doc/01-value.md says of Binary of two values of one kind, said another way; false if the kind is not what op wants.
func model(op int, a, b api.Value) (api.Value, bool) {
	num, str, bo := a.Kind == api.KInt, a.Kind == api.KStr, a.Kind == api.KBool
	less, more := a.Int < b.Int, a.Int > b.Int
	if str {
		less, more = a.Str < b.Str, a.Str > b.Str
	}
	switch op {
	case api.OAdd:
		return wrapped(new(big.Int).Add(big.NewInt(a.Int), big.NewInt(b.Int))), num
	case api.OSub:
		return wrapped(new(big.Int).Sub(big.NewInt(a.Int), big.NewInt(b.Int))), num
	case api.OMul:
		return wrapped(new(big.Int).Mul(big.NewInt(a.Int), big.NewInt(b.Int))), num
	case api.OEq:
		return truth(a == b), true
	case api.ONe:
		return truth(a != b), true
	case api.OLt:
		return truth(less), num || str
	case api.OLe:
		return truth(!more), num || str
	case api.OGt:
		return truth(more), num || str
	case api.OGe:
		return truth(!less), num || str
	case api.OAnd:
		return truth(a.Bool && b.Bool), bo
	}
	return truth(a.Bool || b.Bool), bo
}

// wrapped brings a number to -2^63 to 2^63 - 1 by a multiple of 2^64.
func wrapped(n *big.Int) api.Value {
	m := new(big.Int).Lsh(big.NewInt(1), 64)
	n = new(big.Int).Mod(n, m)
	if n.Bit(63) == 1 {
		n.Sub(n, m)
	}
	return number(n.Int64())
}

// TestBinary: P1.6, all operations on all pairs of values that may be.
func TestBinary(t *testing.T) {
	vs := append(good(), number(1<<62), number(4), number(3037000500), number(-3037000500), number(1<<32+1))
	for op := api.OAdd; op <= api.OOr; op++ {
		for _, a := range vs {
			for _, b := range vs {
				want, fits := model(op, a, b)
				e := api.OK
				if a.Kind != b.Kind || !fits {
					want, e = api.Value{}, api.ErrKind
				}
				if w, e2 := Binary(op, a, b); w != want || e2 != e {
					t.Errorf("Binary(%d, %v, %v) = %v, %d, want %v, %d", op, a, b, w, e2, want, e)
				}
			}
		}
	}
}

// TestBinaryExamples: P1.6, what the document writes out.
func TestBinaryExamples(t *testing.T) {
	none := api.Value{}
	for _, x := range []struct {
		op         int
		a, b, want api.Value
		e          api.Errno
	}{
		{api.OAdd, number(math.MaxInt64), number(1), number(math.MinInt64), api.OK}, {api.OSub, number(math.MinInt64), number(1), number(math.MaxInt64), api.OK}, {api.OSub, number(0), number(math.MinInt64), number(math.MinInt64), api.OK},
		{api.OMul, number(1 << 62), number(4), number(0), api.OK}, {api.OMul, number(math.MinInt64), number(-1), number(math.MinInt64), api.OK},
		{api.OLe, text("a"), text("b"), truth(true), api.OK}, {api.OLt, text("b"), text("abc"), truth(false), api.OK}, {api.OEq, truth(true), truth(true), truth(true), api.OK},
		{api.OLt, truth(true), truth(false), none, api.ErrKind}, {api.OEq, number(1), text("1"), none, api.ErrKind},
		{2, number(1), number(1), none, api.ErrOp}, {14, none, none, none, api.ErrOp}, {api.OAdd, none, number(1), none, api.ErrValue},
	} {
		if w, e := Binary(x.op, x.a, x.b); w != x.want || e != x.e {
			t.Errorf("Binary(%d, %v, %v) = %v, %d, want %v, %d", x.op, x.a, x.b, w, e, x.want, x.e)
		}
	}
}

// TestBinaryRefused: P1.6, P0.2: the first error that applies.
func TestBinaryRefused(t *testing.T) {
	none := api.Value{}
	for _, v := range bad() {
		for op := api.OAdd; op <= api.OOr; op++ {
			for _, w := range append(good(), v) {
				if x, e := Binary(op, v, w); x != none || e != api.ErrValue {
					t.Errorf("Binary(%d, %v, %v) = %v, %d, want ErrValue", op, v, w, x, e)
				}
				if x, e := Binary(op, w, v); x != none || e != api.ErrValue {
					t.Errorf("Binary(%d, %v, %v) = %v, %d, want ErrValue", op, w, v, x, e)
				}
			}
		}
	}
	for _, op := range []int{math.MinInt, -1, 0, api.ONeg, api.ONot, 14, 15, 64, math.MaxInt} {
		for _, v := range append(good(), bad()...) {
			if x, e := Binary(op, v, v); x != none || e != api.ErrOp {
				t.Errorf("Binary(%d, %v, %v) = %v, %d, want ErrOp", op, v, v, x, e)
			}
		}
	}
}

// TestAlike: P1.7, P0.5: whatever was asked before, and beside, answers are the same.
func TestAlike(t *testing.T) {
	want := allAnswers()
	var wait sync.WaitGroup
	for range 8 {
		wait.Go(func() {
			for range 3 {
				if got := allAnswers(); got != want {
					t.Error("the same calls answer another way")
				}
			}
		})
	}
	wait.Wait()
}

// allAnswers asks every call of many values and writes the answers down.
func allAnswers() string {
	var out strings.Builder
	vs := append(good(), bad()...)
	for _, a := range vs {
		s, e := Show(a)
		v, e2 := Read(s)
		fmt.Fprintln(&out, Valid(a), strconv.Quote(s), e, v, e2)
		for op := -1; op < 16; op++ {
			v, e := Unary(op, a)
			fmt.Fprintln(&out, v, e)
			for _, b := range []api.Value{number(3), text("b"), truth(true), {}} {
				v, e := Binary(op, a, b)
				fmt.Fprintln(&out, v, e, Compare(a, b))
			}
		}
	}
	return out.String()
}
