package csv_test

import (
	"math"
	"math/big"
	"reflect"
	"regexp"
	"slices"
	"strconv"
	"strings"
	"sync"
	"testing"

	"refrain/api"
	"refrain/csv"
)

func number(n int64) api.Value { return api.Value{Kind: api.KInt, Int: n} }

func str(s string) api.Value { return api.Value{Kind: api.KStr, Str: s} }

func truth(b bool) api.Value { return api.Value{Kind: api.KBool, Bool: b} }

// typed is a type with attributes of these kinds.
func typed(name string, kinds ...int) api.Type {
	t := api.Type{Name: name}
	for i, k := range kinds {
		t.Attrs = append(t.Attrs, api.Attr{Name: "a" + strconv.Itoa(i), Kind: k})
	}
	return t
}

func event(name string, time int64, vals ...api.Value) api.Event {
	return api.Event{Type: name, Time: time, Vals: vals}
}

func same(a, b api.Event) bool {
	return a.Type == b.Type && a.Time == b.Time && slices.Equal(a.Vals, b.Vals)
}

func none(e api.Event) bool { return reflect.DeepEqual(e, api.Event{}) }

// odd are kinds that are none of the three.
var odd = []int{0, 4, 5, -1, -2, 256 + 1, 1 << 32, 1<<32 + 1, math.MaxInt, math.MinInt}

// cells are texts of which few are of a kind.
func cells() []string {
	long := strings.Repeat("s", 256)
	return []string{
		"", "0", "-0", "+0", "00", "7", "07", "-7", "+7", "-07", "--7", "7 ", " 7", "7\n", "3.0", "3e0", "0x7", "1_0", "-", "+", "\u0663",
		"4611686018427387903", "4611686018427387904", "4611686018427387905", "9223372036854775807", "9223372036854775808", "-9223372036854775808", "-9223372036854775809",
		"18446744073709551616", "18446744073709551623", "99999999999999999999999999", strings.Repeat("9", 300), strings.Repeat("0", 300) + "7",
		"TRUE", "FALSE", "true", "True", "TRUE ", " FALSE", "T", "1",
		`"7"`, `"hi"`, `"`, `""`, `"TRUE"`, `\n`, `\`, "\x00", "\xff", "a,b", "\r\n", "hi",
		long, long + "s", long[:255], strings.Repeat("\xff", 256), strings.Repeat("\xff", 257), strings.Repeat("\u20ac", 86), `"` + long[:254] + `"`, `"` + long + `"`,
	}
}

var decimal = regexp.MustCompile(`^(0|-?[1-9][0-9]*)$`)

// modelCell is the value of a kind whose cell this is.
func modelCell(kind int, cell string) (api.Value, bool) {
	switch kind {
	case api.KInt:
		n, ok := new(big.Int).SetString(cell, 10)
		if !ok || !n.IsInt64() || !decimal.MatchString(cell) {
			return api.Value{}, false
		}
		return number(n.Int64()), true
	case api.KStr:
		return str(cell), len(cell) <= 256
	case api.KBool:
		return truth(cell == "TRUE"), cell == "TRUE" || cell == "FALSE"
	}
	return api.Value{}, false
}

func modelEvent(t api.Type, row []string) (api.Event, api.Errno) {
	if len(row) != len(t.Attrs)+1 {
		return api.Event{}, api.ErrArity
	}
	time, ok := modelCell(api.KInt, row[0])
	if !ok || time.Int < 0 || time.Int > 1<<62 {
		return api.Event{}, api.ErrTime
	}
	e := event(t.Name, time.Int)
	f := api.OK
	for i, a := range t.Attrs {
		v, ok := modelCell(a.Kind, row[i+1])
		switch {
		case a.Kind < 1 || a.Kind > 3:
			return api.Event{}, api.ErrKind
		case !ok:
			f = api.ErrValue
		}
		e.Vals = append(e.Vals, v)
	}
	if f != api.OK {
		return api.Event{}, f
	}
	return e, api.OK
}

// askEvent holds Event of a row against the model; what is read is written as that row (P4.6).
func askEvent(t *testing.T, typ api.Type, row ...string) {
	t.Helper()
	want, f := modelEvent(typ, row)
	e, f2 := csv.Event(typ, row)
	if !same(e, want) || f2 != f || f != api.OK && !none(e) {
		t.Fatalf("P4.4: Event(%v, %.80q) = %.80v, %d, want %.80v, %d", typ, row, e, f2, want, f)
	}
	if f != api.OK {
		return
	}
	if back, f := csv.Row(typ, e); !slices.Equal(back, row) || f != api.OK {
		t.Fatalf("P4.6: Row(%v, %.80v) = %.80q, %d, want %.80q", typ, e, back, f, row)
	}
}

// TestEventExamples: P4.4, what the document writes out.
func TestEventExamples(t *testing.T) {
	all := typed("T", api.KInt, api.KStr, api.KBool)
	want := event("T", 7, number(-3), str(`"hi"`), truth(true))
	if e, f := csv.Event(all, []string{"7", "-3", `"hi"`, "TRUE"}); !reflect.DeepEqual(e, want) || f != api.OK {
		t.Errorf("Event = %v, %d, want %v", e, f, want)
	}
	for _, x := range []struct {
		row []string
		f   api.Errno
	}{
		{[]string{"7", "-3", "hi"}, api.ErrArity},
		{[]string{"07", "-3", "hi", "TRUE"}, api.ErrTime},
		{[]string{"7", "3.0", "hi", "TRUE"}, api.ErrValue},
		{[]string{"-1", "3", "hi", "TRUE"}, api.ErrTime},
		{nil, api.ErrArity},
		{[]string{"7", "-3", "hi", "TRUE", ""}, api.ErrArity},
		{[]string{"7", "TRUE", "hi", "TRUE"}, api.ErrValue},
		{[]string{"7", "3", "hi", "1"}, api.ErrValue},
		{[]string{"TRUE", "3", "hi", "TRUE"}, api.ErrTime},
		{[]string{`"7"`, "3", "hi", "TRUE"}, api.ErrTime},
	} {
		if e, f := csv.Event(all, x.row); !none(e) || f != x.f {
			t.Errorf("Event(%q) = %v, %d, want %d", x.row, e, f, x.f)
		}
	}
}

// TestEventCells: P4.4, P4.6: each text as a time and as a cell of each kind.
func TestEventCells(t *testing.T) {
	kinds := append([]int{api.KInt, api.KStr, api.KBool}, odd...)
	for _, cell := range cells() {
		askEvent(t, typed("T"), cell)
		askEvent(t, typed("T", api.KInt), cell, cell)
		for _, k := range kinds {
			askEvent(t, typed("T", k), "3", cell)
			askEvent(t, typed("T", k), "03", cell)
			for _, k2 := range kinds {
				askEvent(t, typed("T", k, api.KStr, k2), "3", cell, "x", "5")
				askEvent(t, typed("T", k, k2), "3", "TRUE", cell)
			}
		}
	}
	for c := range 256 {
		b := string([]byte{byte(c)})
		askEvent(t, typed("T", api.KStr), "0", b)
		askEvent(t, typed("T", api.KInt), "0", b)
		askEvent(t, typed("T", api.KInt), "0", "1"+b)
		askEvent(t, typed("T", api.KBool), "0", "TRUE"+b)
		askEvent(t, typed("T"), b)
		askEvent(t, typed("T"), "1"+b)
	}
}

// TestEventFaults: P4.4: the first of several faults, and nothing of the type but its kinds is looked at.
func TestEventFaults(t *testing.T) {
	for _, k := range odd {
		for _, x := range []struct {
			row []string
			f   api.Errno
		}{
			{[]string{"x", "x"}, api.ErrArity},
			{[]string{"x", "x", "x", "x"}, api.ErrArity},
			{[]string{"x", "x", "x"}, api.ErrTime},
			{[]string{"1", "x", "x"}, api.ErrKind},
			{[]string{"1", "1", "1"}, api.ErrKind},
		} {
			if e, f := csv.Event(typed("T", api.KInt, k), x.row); !none(e) || f != x.f {
				t.Errorf("Event(INT and %d, %q) = %v, %d, want %d", k, x.row, e, f, x.f)
			}
		}
	}
	for _, name := range []string{"", "9", "INT", "a b", "\xff\x00", strings.Repeat("n", 1000)} {
		typ := api.Type{Name: name, Attrs: []api.Attr{{Name: name, Kind: api.KInt}, {Name: name, Kind: api.KInt}}}
		e, f := csv.Event(typ, []string{"1", "2", "3"})
		if want := event(name, 1, number(2), number(3)); !same(e, want) || f != api.OK {
			t.Errorf("Event of a type %.40q = %.80v, %d", name, e, f)
		}
		askEvent(t, typ, "1", "2", "3")
	}
	wide := typed("Wide", slices.Repeat([]int{api.KInt}, 1000)...)
	askEvent(t, wide, slices.Repeat([]string{"8"}, 1001)...)
	askEvent(t, wide, slices.Repeat([]string{"8"}, 1000)...)
	askEvent(t, wide, append(slices.Repeat([]string{"8"}, 1000), "x")...)
	askEvent(t, api.Type{})
	askEvent(t, api.Type{}, "3")
}

// values are values that may be.
func values() []api.Value {
	vs := []api.Value{truth(false), truth(true)}
	for _, n := range []int64{0, 1, -1, 9, 10, -10, 1 << 31, 1 << 62, -1 << 62, math.MaxInt64, math.MinInt64, math.MinInt64 + 1} {
		vs = append(vs, number(n))
	}
	for _, c := range cells() {
		if len(c) <= 256 {
			vs = append(vs, str(c))
		}
	}
	return vs
}

// wrong are values that may not be.
func wrong() []api.Value {
	vs := []api.Value{
		{}, {Kind: 4}, {Kind: -1}, {Kind: math.MaxInt}, {Kind: math.MinInt}, {Int: 1}, {Str: "x"},
		{Kind: api.KInt, Str: "1"}, {Kind: api.KInt, Int: 1, Bool: true}, {Kind: api.KStr, Str: "a", Int: 1}, {Kind: api.KStr, Bool: true},
		{Kind: api.KBool, Int: 1}, {Kind: api.KBool, Bool: true, Str: "TRUE"}, str(strings.Repeat("s", 257)),
	}
	for _, k := range odd {
		vs = append(vs, api.Value{Kind: k})
	}
	return vs
}

// TestRowExamples: P4.5, what the document writes out.
func TestRowExamples(t *testing.T) {
	one := typed("T", api.KInt)
	if row, f := csv.Row(one, event("T", 5, number(-3))); !slices.Equal(row, []string{"5", "-3"}) || f != api.OK {
		t.Errorf("Row = %q, %d", row, f)
	}
	if row, f := csv.Row(one, event("U", 5, number(-3))); row != nil || f != api.ErrType {
		t.Errorf("Row of another type = %q, %d", row, f)
	}
	if row, f := csv.Row(one, event("T", 5, str("3"))); row != nil || f != api.ErrKind {
		t.Errorf("Row of another kind = %q, %d", row, f)
	}
	all := typed("T", api.KInt, api.KStr, api.KBool, api.KBool)
	row, f := csv.Row(all, event("T", api.MaxTime, number(math.MinInt64), str("a \"b\",\n"), truth(true), truth(false)))
	if want := []string{"4611686018427387904", "-9223372036854775808", "a \"b\",\n", "TRUE", "FALSE"}; !slices.Equal(row, want) || f != api.OK {
		t.Errorf("Row = %q, %d, want %q", row, f, want)
	}
	if row, f := csv.Row(api.Type{}, api.Event{}); !slices.Equal(row, []string{"0"}) || f != api.OK {
		t.Errorf("Row of nothing = %q, %d", row, f)
	}
}

// TestRowBack: P4.5, P4.6: each value and time is read as what it was.
func TestRowBack(t *testing.T) {
	back := func(typ api.Type, e api.Event) {
		t.Helper()
		row, f := csv.Row(typ, e)
		if len(row) != len(e.Vals)+1 || f != api.OK {
			t.Fatalf("P4.5: Row(%v, %.80v) = %.80q, %d", typ, e, row, f)
		}
		if got, f := csv.Event(typ, row); !same(got, e) || f != api.OK {
			t.Fatalf("P4.6: Event(%v, %.80q) = %.80v, %d, want %.80v", typ, row, got, f, e)
		}
		text, f := csv.Join(row)
		if rows, _, f2 := csv.Split(text); !sameRows(rows, [][]string{row}) || f != api.OK || f2 != api.OK {
			t.Fatalf("P4.3: Split(%.80q) = %.80q, want %.80q", text, rows, row)
		}
	}
	for _, v := range values() {
		back(typed("T", v.Kind), event("T", 0, v))
		for _, w := range values() {
			back(typed("T", v.Kind, w.Kind, v.Kind), event("T", 1, v, w, v))
		}
	}
	for _, n := range []int64{0, 1, 9, 10, 1 << 32, api.MaxTime - 1, api.MaxTime} {
		back(typed("T"), event("T", n))
		back(typed("\xff \n"), event("\xff \n", n))
	}
	back(typed("Wide", slices.Repeat([]int{api.KStr}, 200)...), event("Wide", 1, slices.Repeat([]api.Value{str("")}, 200)...))
}

// TestRowFaults: P4.5: each fault by itself, and the first of several.
func TestRowFaults(t *testing.T) {
	refused := func(want api.Errno, typ api.Type, e api.Event) {
		t.Helper()
		if row, f := csv.Row(typ, e); row != nil || f != want {
			t.Errorf("Row(%v, %.80v) = %q, %d, want %d", typ, e, row, f, want)
		}
	}
	two := typed("T", api.KInt, api.KStr)
	for _, name := range []string{"", "U", "t", "T ", "TT"} {
		refused(api.ErrType, two, event(name, 1, number(1), str("")))
		refused(api.ErrType, two, event(name, -1, api.Value{}))
	}
	for _, n := range []int64{-1, api.MaxTime + 1, math.MaxInt64, math.MinInt64} {
		refused(api.ErrTime, two, event("T", n, number(1), str("")))
		refused(api.ErrTime, two, event("T", n, api.Value{}))
	}
	refused(api.ErrArity, two, event("T", 1))
	refused(api.ErrArity, two, event("T", 1, number(1)))
	refused(api.ErrArity, two, event("T", 1, number(1), str(""), str("")))
	refused(api.ErrArity, two, event("T", 1, api.Value{}))
	refused(api.ErrArity, two, event("T", 1, str("")))
	refused(api.ErrArity, typed("T"), event("T", 1, number(1)))
	for _, w := range wrong() {
		for _, k := range append([]int{api.KInt, api.KStr, api.KBool, w.Kind}, odd...) {
			refused(api.ErrValue, typed("T", k), event("T", 1, w))
		}
		refused(api.ErrValue, two, event("T", 1, w, number(1)))
		refused(api.ErrValue, two, event("T", 1, number(1), w))
		refused(api.ErrKind, two, event("T", 1, str(""), w))
	}
	for _, v := range values() {
		for _, k := range append([]int{api.KInt, api.KStr, api.KBool}, odd...) {
			if k != v.Kind {
				refused(api.ErrKind, typed("T", k), event("T", 1, v))
				refused(api.ErrKind, typed("T", v.Kind, k), event("T", 1, v, v))
			}
		}
	}
}

// TestEventMemory: P4.7, P0.3: nothing that is handed in changes, and no answer shares memory.
func TestEventMemory(t *testing.T) {
	typ := typed("T", api.KInt, api.KStr, api.KBool)
	typ.Attrs = append(make([]api.Attr, 0, 8), typ.Attrs...)
	typ.Attrs[:4][3] = api.Attr{Name: "spare", Kind: 9}
	row := append(make([]string, 0, 8), "5", "-3", "a", "TRUE")
	row[:5][4] = "spare"
	attrs, cells := slices.Clone(typ.Attrs[:8]), slices.Clone(row[:8])
	e, _ := csv.Event(typ, row)
	want, _ := csv.Event(typ, row)
	unchanged := func() {
		t.Helper()
		if !slices.Equal(typ.Attrs[:8], attrs) || !slices.Equal(row[:8], cells) {
			t.Fatalf("what was handed in is changed: %v, %q", typ.Attrs[:8], row[:8])
		}
	}
	unchanged()
	vals := append(make([]api.Value, 0, 8), e.Vals...)
	vals[:4][3] = number(99)
	clear(e.Vals[:cap(e.Vals)])
	unchanged()
	if again, _ := csv.Event(typ, row); !same(want, again) {
		t.Errorf("two answers share memory: %v, %v", want, again)
	}
	kept := slices.Clone(vals[:8])
	first, _ := csv.Row(typ, event("T", 5, vals...))
	second, _ := csv.Row(typ, event("T", 5, vals...))
	clear(first[:cap(first)])
	if !slices.Equal(second, row) || !slices.Equal(vals[:8], kept) {
		t.Errorf("Row = %q, with %v, want %q, with %v", second, vals[:8], row, kept)
	}
	unchanged()
	clear(row[:8])
	clear(typ.Attrs[:8])
	clear(vals[:8])
	if !same(want, event("T", 5, number(-3), str("a"), truth(true))) || !slices.Equal(second, cells[:4]) {
		t.Errorf("an answer stands on what was handed in: %v, %q", want, second)
	}
}

// TestAlike: P4.7, P0.5: whatever was asked before, and beside, answers are the same.
func TestAlike(t *testing.T) {
	play := func() []any {
		var out []any
		for _, c := range cells() {
			rows, at, f := csv.Split(c + ",x\n" + c)
			text, f2 := csv.Join(append(rows, []string{c})...)
			_, f3 := csv.Join([]string{c}, nil)
			e, f4 := csv.Event(typed("T", api.KStr, api.KInt), []string{"1", c, c})
			row, f5 := csv.Row(typed("T", api.KStr), event("T", 1, str(c)))
			out = append(out, rows, at, f, text, f2, f3, e, f4, row, f5)
		}
		return out
	}
	want := play()
	var wait sync.WaitGroup
	for range 8 {
		wait.Go(func() {
			if got := play(); !reflect.DeepEqual(got, want) {
				t.Error("the same calls answer another way")
			}
		})
	}
	wait.Wait()
}
