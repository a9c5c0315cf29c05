package csv_test

import (
	"math/rand"
	"reflect"
	"regexp"
	"slices"
	"strings"
	"testing"

	"refrain/api"
	"refrain/csv"
)

const maxSheet = 65536

func sameRows(a, b [][]string) bool { return slices.EqualFunc(a, b, slices.Equal[[]string]) }

var (
	aQuoted = regexp.MustCompile(`(?s)^"((?:[^"]|"")*)"`)
	aPlain  = regexp.MustCompile(`^[^",\r\n]*`)
	anEnd   = regexp.MustCompile(`^(?:\r?\n|$)`)
)

// modelSplit reads rows by the document's grammar, piece by piece.
func modelSplit(text string) (rows [][]string, at int, e api.Errno) {
	if len(text) > maxSheet {
		return nil, 0, api.ErrLong
	}
	rest := text
	place := func() int { return len(text) - len(rest) }
	fresh := true // no row has begun
	for rest != "" || !fresh {
		if fresh {
			rows = append(rows, nil)
			fresh = false
		}
		cell := aPlain.FindString(rest)
		n := len(cell)
		if strings.HasPrefix(rest, `"`) {
			m := aQuoted.FindStringSubmatch(rest)
			if m == nil || strings.HasPrefix(rest[len(m[0]):], `"`) { // half of a pair closes no cell
				return nil, place(), api.ErrQuote
			}
			n, cell = len(m[0]), strings.ReplaceAll(m[1], `""`, `"`)
		}
		rest = rest[n:]
		last := &rows[len(rows)-1]
		*last = append(*last, cell)
		if strings.HasPrefix(rest, ",") {
			rest = rest[1:]
			continue
		}
		end := anEnd.FindString(rest)
		switch {
		case end == "" && strings.HasPrefix(rest, "\r"):
			return nil, place(), api.ErrRow
		case end == "" && rest != "":
			return nil, place(), api.ErrQuote
		}
		rest = rest[len(end):]
		fresh = true
	}
	return rows, 0, api.OK
}

// modelText is the text of rows, each cell written by itself.
func modelText(rows [][]string) string {
	var s strings.Builder
	for _, row := range rows {
		cells := slices.Clone(row)
		for i, c := range cells {
			if strings.Contains(c, ",") || strings.Contains(c, `"`) || strings.Contains(c, "\r") || strings.Contains(c, "\n") {
				cells[i] = `"` + strings.Join(strings.Split(c, `"`), `""`) + `"`
			}
		}
		s.WriteString(strings.Join(cells, ",") + "\r\n")
	}
	return s.String()
}

// askSplit holds Split of a text against the model; what is read is what Join of it is read as (P4.3).
func askSplit(t *testing.T, text string) {
	t.Helper()
	want, wantAt, wantE := modelSplit(text)
	rows, at, e := csv.Split(text)
	if !sameRows(rows, want) || at != wantAt || e != wantE {
		t.Fatalf("P4.1: Split(%.80q) = %.80q, %d, %d, want %.80q, %d, %d", text, rows, at, e, want, wantAt, wantE)
	}
	if e != api.OK {
		if rows != nil {
			t.Fatalf("P4.1: Split(%.80q) has rows beside %d", text, e)
		}
		return
	}
	askJoin(t, rows)
}

// askJoin holds Join of rows, each of which has cells, against the model, and reads it back (P4.3).
func askJoin(t *testing.T, rows [][]string) {
	t.Helper()
	text, e := csv.Join(rows...)
	want := modelText(rows)
	if len(want) > maxSheet {
		if text != "" || e != api.ErrLong {
			t.Fatalf("P4.2: Join(%.80q) = %d bytes, %d, want ErrLong", rows, len(text), e)
		}
		return
	}
	if text != want || e != api.OK {
		t.Fatalf("P4.2: Join(%.80q) = %.80q, %d, want %.80q", rows, text, e, want)
	}
	if back, at, e := csv.Split(text); !sameRows(back, rows) || at != 0 || e != api.OK {
		t.Fatalf("P4.3: Split(%.80q) = %.80q, %d, %d, want %.80q", text, back, at, e, rows)
	}
}

// TestSplitExamples: P4.1, what the document writes out.
func TestSplitExamples(t *testing.T) {
	for _, x := range []struct {
		text string
		rows [][]string
	}{
		{"", nil},
		{"a,b\r\nc", [][]string{{"a", "b"}, {"c"}}},
		{"a\n", [][]string{{"a"}}},
		{"a\n\n", [][]string{{"a"}, {""}}},
		{",", [][]string{{"", ""}}},
		{"\"a \"\"x\"\", b\r\nc\",d", [][]string{{"a \"x\", b\r\nc", "d"}}},
		{`""`, [][]string{{""}}},
		{`"",""`, [][]string{{"", ""}}},
		{"\r\n", [][]string{{""}}},
		{"\"\r\"\n", [][]string{{"\r"}}},
		{" a ,\x00\xff", [][]string{{" a ", "\x00\xff"}}},
	} {
		if rows, at, e := csv.Split(x.text); !sameRows(rows, x.rows) || at != 0 || e != api.OK {
			t.Errorf("Split(%q) = %q, %d, %d, want %q", x.text, rows, at, e, x.rows)
		}
	}
	for _, x := range []struct {
		text string
		at   int
		e    api.Errno
	}{
		{`ab"c`, 2, api.ErrQuote},
		{`"ab"c`, 4, api.ErrQuote},
		{`x,"ab`, 2, api.ErrQuote},
		{"a\rb", 1, api.ErrRow},
		{"a\r", 1, api.ErrRow},
		{"\"a\"\r", 3, api.ErrRow},
		{"\"a\"\rb", 3, api.ErrRow},
		{"a\n\r\r\n", 2, api.ErrRow},
		{"a\n\"b\" ,c", 5, api.ErrQuote},
		{"a\n b\"", 4, api.ErrQuote},
		{"a\rb\"", 1, api.ErrRow},
		{"b\"\r", 1, api.ErrQuote},
		{"\"\r", 0, api.ErrQuote},
		{`"`, 0, api.ErrQuote},
		{`"""`, 0, api.ErrQuote},
		{`"a""`, 0, api.ErrQuote},
		{"a,b\r\n\"c\"\"\r\n,", 5, api.ErrQuote},
	} {
		if rows, at, e := csv.Split(x.text); rows != nil || at != x.at || e != x.e {
			t.Errorf("Split(%q) = %q, %d, %d, want %d, %d", x.text, rows, at, e, x.at, x.e)
		}
	}
}

// TestSplitShort: P4.1, P4.3: all short texts of the bytes that matter.
func TestSplitShort(t *testing.T) {
	const letters = "a,\"\r\n"
	var all func(text string, more int)
	all = func(text string, more int) {
		askSplit(t, text)
		for i := 0; i < len(letters) && more > 0; i++ {
			all(text+letters[i:i+1], more-1)
		}
	}
	all("", 7)
}

// TestSplitLong: P4.1: longer texts, all bytes, and the bound.
func TestSplitLong(t *testing.T) {
	r := rand.New(rand.NewSource(4))
	pieces := []string{"a", "bc", " ", ",", ",", "\n", "\r\n", "\"\"", "\"x\"", "\"a,b\r\n\r\"\"\"", "\xc3", "\xe2\x82\xac", "\x00"}
	for range 20000 {
		var text string
		for range r.Intn(20) {
			text += pieces[r.Intn(len(pieces))]
		}
		if r.Intn(3) == 0 {
			i := r.Intn(len(text) + 1)
			text = text[:i] + string([]byte{byte(r.Intn(256))}) + text[i:]
		}
		askSplit(t, text)
	}
	for c := range 256 {
		b := string([]byte{byte(c)})
		for _, text := range []string{b, "a" + b, b + "a", `"` + b + `"`, `""` + b, b + "\n", "\r" + b, "a,b" + b + "c\nd"} {
			askSplit(t, text)
		}
	}
	for _, fill := range []string{"x", ",", "\n", "\"", "\r\n", "\"\",", "a\n", "\r", "\xff", "x\"", "\"a\"\r\n"} {
		whole := strings.Repeat(fill, maxSheet+3)
		for n := maxSheet - 3; n <= maxSheet+3; n++ {
			askSplit(t, whole[:n])
		}
		askSplit(t, whole[:len(fill)*(maxSheet/len(fill))])
	}
	askSplit(t, strings.Repeat("x", maxSheet-1)+`"`)
	askSplit(t, `"`+strings.Repeat("x", maxSheet-1))
	askSplit(t, `"`+strings.Repeat("x", maxSheet-2)+`"`)
	askSplit(t, `"`+strings.Repeat("x", maxSheet-1)+`"`)
	askSplit(t, strings.Repeat("x", maxSheet-1)+"\r")
	askSplit(t, strings.Repeat("x", 1<<21))
}

// TestJoinExamples: P4.2, what the document writes out.
func TestJoinExamples(t *testing.T) {
	for _, x := range []struct {
		rows [][]string
		text string
		e    api.Errno
	}{
		{nil, "", api.OK},
		{[][]string{}, "", api.OK},
		{[][]string{{"a", "b,c"}, {""}, {`"`, "\r"}}, "a,\"b,c\"\r\n\r\n\"\"\"\",\"\r\"\r\n", api.OK},
		{[][]string{{"a\n", " b ", "", ""}}, "\"a\n\", b ,,\r\n", api.OK},
		{[][]string{{"\x00\xff"}}, "\x00\xff\r\n", api.OK},
		{[][]string{{"a"}, {}}, "", api.ErrRow},
		{[][]string{nil}, "", api.ErrRow},
		{[][]string{nil, {"a"}}, "", api.ErrRow},
		{[][]string{{strings.Repeat("x", maxSheet)}, {}}, "", api.ErrRow},
		{[][]string{{strings.Repeat("x", maxSheet)}}, "", api.ErrLong},
	} {
		if text, e := csv.Join(x.rows...); text != x.text || e != x.e {
			t.Errorf("Join(%.80q) = %.80q, %d, want %q, %d", x.rows, text, e, x.text, x.e)
		}
	}
	if text, e := csv.Join(); text != "" || e != api.OK {
		t.Errorf("Join() = %q, %d", text, e)
	}
}

// TestJoinBack: P4.2, P4.3: what is written is read as it was.
func TestJoinBack(t *testing.T) {
	r := rand.New(rand.NewSource(5))
	const letters = "ab,,\"\"\r\n \x00\xff"
	for range 20000 {
		rows := make([][]string, r.Intn(5))
		for i := range rows {
			rows[i] = make([]string, 1+r.Intn(4))
			for j := range rows[i] {
				for range r.Intn(6) {
					k := r.Intn(len(letters))
					rows[i][j] += letters[k : k+1]
				}
			}
		}
		askJoin(t, rows)
	}
	for c := range 256 {
		b := string([]byte{byte(c)})
		askJoin(t, [][]string{{b}, {b, b + "a"}, {"a" + b}, {b + b, ""}})
	}
}

// TestJoinBound: P4.2, P4.3: 65536 bytes and no more.
func TestJoinBound(t *testing.T) {
	x := strings.Repeat("x", maxSheet)
	for n := maxSheet - 12; n <= maxSheet; n++ {
		askJoin(t, [][]string{{x[:n]}})
		askJoin(t, [][]string{{x[:n-1], ""}})
		askJoin(t, [][]string{{x[:n-9]}, {"a"}, {""}})
		askJoin(t, [][]string{{"", x[:n-7] + ","}})
		askJoin(t, [][]string{{x[:n-8] + "\""}, {""}})
	}
	for n := maxSheet/2 - 3; n <= maxSheet/2+3; n++ {
		askJoin(t, slices.Repeat([][]string{{""}}, n))
		askJoin(t, [][]string{{strings.Repeat("\"", n)}})
	}
	for n := maxSheet - 3; n <= maxSheet+3; n++ {
		askJoin(t, [][]string{make([]string, n)})
	}
	// Rows beyond all memory, were they all written.
	mega := strings.Repeat("\"", 1<<20)
	if text, e := csv.Join(slices.Repeat([][]string{slices.Repeat([]string{mega}, 1000)}, 1000)...); text != "" || e != api.ErrLong {
		t.Errorf("Join of far too much = %d bytes, %d", len(text), e)
	}
}

// TestSheetMemory: P4.7, P0.3: nothing that is handed in changes, no lists share memory.
func TestSheetMemory(t *testing.T) {
	kept := make([][]string, 3, 6)
	for i := range kept[:6] {
		kept[:6][i] = append(make([]string, 0, 8), "a", "\"b,", "c")
	}
	for i := range 8 {
		kept[1][:8][i] = "z"
	}
	var before [][]string
	for _, row := range kept[:6] {
		before = append(before, slices.Clone(row[:8]))
	}
	want, e := csv.Join(kept...)
	for i, row := range kept[:6] {
		if e != api.OK || !slices.Equal(row[:8], before[i]) {
			t.Fatalf("Join changed what was handed in: %q, %q, %d", row[:8], before[i], e)
		}
	}
	for _, row := range kept {
		clear(row[:8])
	}
	clear(kept[:6])
	rows, _, _ := csv.Split(want)
	again, _, _ := csv.Split(want)
	for i := range rows {
		for j := range rows[i] {
			_ = append(rows[i][:j+1], slices.Repeat([]string{"spoiled"}, cap(rows[i])-j-1)...)
			rows[i][j] = "spoiled"
		}
		if !sameRows(rows[i+1:], again[i+1:]) {
			t.Fatalf("two rows of one answer share memory: %q", rows)
		}
	}
	clear(rows[:cap(rows)])
	if text, e := csv.Join(again...); text != want || e != api.OK {
		t.Errorf("Join(%q) = %q, %d, want %q", again, text, e, want)
	}
	if third, _, _ := csv.Split(want); !reflect.DeepEqual(third, again) {
		t.Errorf("Split(%q) = %q, want %q", want, third, again)
	}
}
