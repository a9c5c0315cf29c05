package token_test

import (
	"math/big"
	"math/rand"
	"regexp"
	"slices"
	"strconv"
	"strings"
	"testing"

	"refrain/api"
	"refrain/token"
)

func word(s string, at int) api.Tok   { return api.Tok{Kind: api.TWord, Text: s, At: at} }
func number(s string, at int) api.Tok { return api.Tok{Kind: api.TInt, Text: s, At: at} }
func str(s string, at int) api.Tok    { return api.Tok{Kind: api.TStr, Text: s, At: at} }
func sign(s string, at int) api.Tok   { return api.Tok{Kind: api.TSign, Text: s, At: at} }
func end(at int) api.Tok              { return api.Tok{Kind: api.TEnd, At: at} }

var (
	aGap    = regexp.MustCompile(`^(?:[ \t\n\r]|--[^\n]*)*`)
	aWord   = regexp.MustCompile(`^[A-Za-z_][A-Za-z0-9_]*`)
	aNumber = regexp.MustCompile(`^[0-9]+`)
	aSign   = regexp.MustCompile(`^(?:\.\.|!=|<=|>=|[()\[\]{},.+\-*=<>!])`)
	aChar   = regexp.MustCompile(`^(?:[ !#-\[\]-~]|\\["\\nt]|\\x[0-9a-fA-F]{2})`)
	aTorn   = regexp.MustCompile(`^(?:|\\|\\x|\\x[0-9a-fA-F])$`)
	aLetter = regexp.MustCompile(`^[A-Za-z_]`)
)

// modelScan cuts a text by the document's forms, token by token.
func modelScan(text string) (toks []api.Tok, at int, e api.Errno) {
	if len(text) > 4096 {
		return nil, 0, api.ErrLong
	}
	// No byte above 0x7e can stand in a token; with one instead of all of them, bytes are what a regular expression counts.
	rest := strings.Map(func(r rune) rune { return min(r, 0x7f) }, latin(text))
	for {
		rest = rest[len(aGap.FindString(rest)):]
		at := len(text) - len(rest)
		kind, piece := api.TEnd, ""
		switch {
		case rest == "":
			return append(toks, end(at)), 0, api.OK
		case aWord.MatchString(rest):
			kind, piece = api.TWord, aWord.FindString(rest)
			if len(piece) > 32 {
				return nil, at, api.ErrLit
			}
		case aNumber.MatchString(rest):
			kind, piece = api.TInt, aNumber.FindString(rest)
			n, _ := new(big.Int).SetString(piece, 10)
			if !n.IsInt64() || len(piece) > 1 && piece[0] == '0' || aLetter.MatchString(rest[len(piece):]) {
				return nil, at, api.ErrLit
			}
		case aSign.MatchString(rest):
			kind, piece = api.TSign, aSign.FindString(rest)
		case rest[0] == '"':
			kind = api.TStr
			chars, behind := modelChars(rest[1:])
			place := len(text) - len(behind)
			switch {
			case len(chars) > 256:
				return nil, at, api.ErrLit
			case aTorn.MatchString(behind):
				return nil, at, api.ErrOpen
			case behind[0] == '\\':
				return nil, place, api.ErrLit
			case behind[0] != '"':
				return nil, place, api.ErrChar
			}
			toks = append(toks, str(meant(chars), at))
			rest = behind[1:]
			continue
		default:
			return nil, at, api.ErrChar
		}
		toks = append(toks, api.Tok{Kind: kind, Text: piece, At: at})
		rest = rest[len(piece):]
	}
}

// latin is a text with a rune for each byte.
func latin(text string) string {
	var out []rune
	for _, b := range []byte(text) {
		out = append(out, rune(b))
	}
	return string(out)
}

// modelChars are the characters with which s begins, 257 at most, and what stands behind them.
func modelChars(s string) (chars []string, behind string) {
	for len(chars) < 257 {
		c := aChar.FindString(s)
		if c == "" {
			break
		}
		chars, s = append(chars, c), s[len(c):]
	}
	return chars, s
}

// meant are the bytes that characters stand for.
func meant(chars []string) string {
	var out []byte
	for _, c := range chars {
		switch {
		case c == `\n`:
			c = "\n"
		case c == `\t`:
			c = "\t"
		case strings.HasPrefix(c, `\x`):
			n, _ := strconv.ParseUint(c[2:], 16, 8)
			c = string([]byte{byte(n)})
		case c[0] == '\\':
			c = c[1:]
		}
		out = append(out, c...)
	}
	return string(out)
}

// ask holds Scan of a text against the model, and against Spell (P5.2).
func ask(t *testing.T, text string) {
	t.Helper()
	want, wantAt, wantErr := modelScan(text)
	toks, at, e := token.Scan(text)
	if !slices.Equal(toks, want) || at != wantAt || e != wantErr {
		t.Fatalf("P5.1: Scan(%q) = %v, %d, %d, want %v, %d, %d", text, toks, at, e, want, wantAt, wantErr)
	}
	if e != api.OK {
		return
	}
	askBack(t, toks)
}

// askBack holds Scan of Spell against the tokens, which are as Scan gives them (P5.2).
func askBack(t *testing.T, toks []api.Tok) {
	t.Helper()
	for _, given := range [][]api.Tok{toks, toks[:len(toks)-1]} {
		text, e := token.Spell(given...)
		if e == api.ErrLong && len(modelSpell(given)) > 4096 {
			continue
		}
		back, at, e2 := token.Scan(text)
		if !slices.Equal(unplaced(back), unplaced(toks)) || at != 0 || e != api.OK || e2 != api.OK {
			t.Fatalf("P5.2: Spell(%v) = %q, %d, which Scan takes as %v, %d, %d", given, text, e, back, at, e2)
		}
	}
}

// unplaced are tokens without their places.
func unplaced(toks []api.Tok) []api.Tok {
	out := slices.Clone(toks)
	for i := range out {
		out[i].At = 0
	}
	return out
}

// TestScanExamples: P5.1, what the document writes out, and what else it says in words.
func TestScanExamples(t *testing.T) {
	for _, x := range []struct {
		text string
		want []api.Tok
	}{
		{"", []api.Tok{end(0)}},
		{"a.b >= 12", []api.Tok{word("a", 0), sign(".", 1), word("b", 2), sign(">=", 4), number("12", 7), end(9)}},
		{"b[..i-1]", []api.Tok{word("b", 0), sign("[", 1), sign("..", 2), word("i", 4), sign("-", 5), number("1", 6), sign("]", 7), end(8)}},
		{"x-- y\nz", []api.Tok{word("x", 0), word("z", 6), end(7)}},
		{"!(T a)!=", []api.Tok{sign("!", 0), sign("(", 1), word("T", 2), word("a", 4), sign(")", 5), sign("!=", 6), end(8)}},
		{`"a\x41\n"`, []api.Tok{str("aA\n", 0), end(9)}},
		{"0", []api.Tok{number("0", 0), end(1)}},
		{"9223372036854775807", []api.Tok{number("9223372036854775807", 0), end(19)}},
		{"...", []api.Tok{sign("..", 0), sign(".", 2), end(3)}},
		{"SEQ seq _ _0 T9", []api.Tok{word("SEQ", 0), word("seq", 4), word("_", 8), word("_0", 10), word("T9", 13), end(15)}},
		{"- -5", []api.Tok{sign("-", 0), sign("-", 2), number("5", 3), end(4)}},
		{"--5", []api.Tok{end(3)}},
		{"---\n-", []api.Tok{sign("-", 4), end(5)}},
		{"--\xff\x00\"\r--\n", []api.Tok{end(9)}},
		{" \t\r\n", []api.Tok{end(4)}},
		{`"--"`, []api.Tok{str("--", 0), end(4)}},
		{`"a""b"c"d"1`, []api.Tok{str("a", 0), str("b", 3), word("c", 6), str("d", 7), number("1", 10), end(11)}},
		{"===!==<=>>==", []api.Tok{sign("=", 0), sign("=", 1), sign("=", 2), sign("!=", 3), sign("=", 5), sign("<=", 6), sign(">", 8), sign(">=", 9), sign("=", 11), end(12)}},
		{"1.2..3", []api.Tok{number("1", 0), sign(".", 1), number("2", 2), sign("..", 3), number("3", 5), end(6)}},
	} {
		if toks, at, e := token.Scan(x.text); !slices.Equal(toks, x.want) || at != 0 || e != api.OK {
			t.Errorf("Scan(%q) = %v, %d, %d, want %v", x.text, toks, at, e, x.want)
		}
		ask(t, x.text)
	}
}

// TestScanFaults: P5.1: which fault, and where.
func TestScanFaults(t *testing.T) {
	for _, x := range []struct {
		text string
		at   int
		e    api.Errno
	}{
		{"007", 0, api.ErrLit}, {"00", 0, api.ErrLit}, {" 01", 1, api.ErrLit}, {"9223372036854775808", 0, api.ErrLit}, {"18446744073709551617", 0, api.ErrLit}, {"12a", 0, api.ErrLit}, {"0x10", 0, api.ErrLit}, {"1_000", 0, api.ErrLit}, {"- 1e3", 2, api.ErrLit},
		{"a & b", 2, api.ErrChar}, {"a\x00", 1, api.ErrChar}, {"\x0b", 0, api.ErrChar}, {"\x0c", 0, api.ErrChar}, {"\xc2\xa0", 0, api.ErrChar}, {"\xc3\xa9", 0, api.ErrChar}, {"a\xc3\xa9", 1, api.ErrChar}, {"1\xff", 1, api.ErrChar}, {"'a'", 0, api.ErrChar}, {`\`, 0, api.ErrChar}, {"a/b", 1, api.ErrChar}, {"a;", 1, api.ErrChar}, {"-\n--\n#", 5, api.ErrChar}, {"\u0663", 0, api.ErrChar},
		{`x "ab`, 2, api.ErrOpen}, {`"`, 0, api.ErrOpen}, {`"""`, 2, api.ErrOpen}, {`"a\`, 0, api.ErrOpen}, {`"a\x`, 0, api.ErrOpen}, {`"a\x4`, 0, api.ErrOpen}, {`"a\xf`, 0, api.ErrOpen}, {`"a\xF`, 0, api.ErrOpen}, {`"a\x41`, 0, api.ErrOpen}, {`"a\"`, 0, api.ErrOpen}, {`"--`, 0, api.ErrOpen},
		{`"a\q"`, 2, api.ErrLit}, {`"a\q`, 2, api.ErrLit}, {`"a\x4"`, 2, api.ErrLit}, {`"a\x"`, 2, api.ErrLit}, {`"a\xg1"`, 2, api.ErrLit}, {`"a\x1g"`, 2, api.ErrLit}, {`"a\xg`, 2, api.ErrLit}, {`"a\X41"`, 2, api.ErrLit}, {`"\N"`, 1, api.ErrLit}, {`"\r"`, 1, api.ErrLit}, {`"\0"`, 1, api.ErrLit}, {`"\'"`, 1, api.ErrLit}, {`"\x+1"`, 1, api.ErrLit}, {`"\x 1"`, 1, api.ErrLit}, {"\"\\\n\"", 1, api.ErrLit}, {"\"\\\xff\"", 1, api.ErrLit}, {"\"\\x\x101\"", 1, api.ErrLit}, {"\"\\x4\n\"", 1, api.ErrLit},
		{"\"ab\ncd\"", 3, api.ErrChar}, {"\"ab\n", 3, api.ErrChar}, {"\"\t\"", 1, api.ErrChar}, {"\"\x00\"", 1, api.ErrChar}, {"\"\x1f\"", 1, api.ErrChar}, {"\"\x7f\"", 1, api.ErrChar}, {"\"\x80\"", 1, api.ErrChar}, {"\"\xff", 1, api.ErrChar}, {"\"\u20ac\"", 1, api.ErrChar}, {"\"\\x4a\n\\q\"", 5, api.ErrChar},
		{"a 007 & \"", 2, api.ErrLit}, {"a & 007", 2, api.ErrChar}, {`"a 007 &`, 0, api.ErrOpen},
	} {
		toks, at, e := token.Scan(x.text)
		if len(toks) != 0 || at != x.at || e != x.e {
			t.Errorf("Scan(%q) = %v, %d, %d, want %d, %d", x.text, toks, at, e, x.at, x.e)
		}
		ask(t, x.text)
	}
}

// TestScanBounds: P5.1: the longest text, word, number and string, and one more.
func TestScanBounds(t *testing.T) {
	w, s := strings.Repeat("w", 32), strings.Repeat("s", 256)
	for _, x := range []struct {
		text string
		at   int
		e    api.Errno
	}{
		{w, 0, api.OK}, {"a " + w + "9", 2, api.ErrLit}, {"_" + w, 0, api.ErrLit}, {w + w + w + "&", 0, api.ErrLit}, {strings.Repeat("w", 4096), 0, api.ErrLit}, {strings.Repeat("_9", 16), 0, api.OK}, {"PATTERN" + w, 0, api.ErrLit}, {w + "\xff", 32, api.ErrChar}, {w + "x\xff", 0, api.ErrLit},
		{"1" + w + w, 0, api.ErrLit}, {strings.Repeat("9", 4096), 0, api.ErrLit}, {strings.Repeat("0", 4096), 0, api.ErrLit}, {strings.Repeat("0", 30) + "1", 0, api.ErrLit},
		{`"` + s + `"`, 0, api.OK}, {`a "` + s + `s"`, 2, api.ErrLit}, {`a "` + s, 2, api.ErrOpen}, {`a "` + s + `s`, 2, api.ErrLit}, {`a "` + s + `ss&`, 2, api.ErrLit},
		{`a "` + s + `\`, 2, api.ErrOpen}, {`a "` + s + `\x`, 2, api.ErrOpen}, {`a "` + s + `\x4`, 2, api.ErrOpen}, {`a "` + s + `\x41`, 2, api.ErrLit}, {`a "` + s + `\n`, 2, api.ErrLit}, {`a "` + s + `\""`, 2, api.ErrLit}, {`a "` + s + `\q"`, 259, api.ErrLit}, {`a "` + s + `\xg"`, 259, api.ErrLit}, {`a "` + s + "\n\"", 259, api.ErrChar}, {`a "` + s + "\xff", 259, api.ErrChar}, {`a "` + s + "s\n", 2, api.ErrLit}, {`a "` + s + `s\q`, 2, api.ErrLit},
		{`"` + strings.Repeat(`\x00`, 256) + `"`, 0, api.OK}, {`"` + strings.Repeat(`\x00`, 257) + `"`, 0, api.ErrLit}, {`"` + strings.Repeat(`\"`, 256) + `"`, 0, api.OK}, {`"` + strings.Repeat(`\\`, 257) + `"`, 0, api.ErrLit},
		{strings.Repeat(" ", 4096), 0, api.OK}, {strings.Repeat(" ", 4097), 0, api.ErrLong}, {"--" + strings.Repeat("x", 4094), 0, api.OK}, {"--" + strings.Repeat("x", 4095), 0, api.ErrLong}, {"&" + strings.Repeat(" ", 4096), 0, api.ErrLong}, {strings.Repeat("&", 4097), 0, api.ErrLong}, {strings.Repeat(" ", 4095) + "&", 4095, api.ErrChar}, {strings.Repeat(" ", 4096) + "&", 0, api.ErrLong}, {strings.Repeat("(", 4096), 0, api.OK}, {strings.Repeat("a", 1<<20), 0, api.ErrLong},
	} {
		if toks, at, e := token.Scan(x.text); at != x.at || e != x.e || e != api.OK && len(toks) != 0 {
			t.Errorf("Scan(%.20q.. of %d bytes) = %d tokens, %d, %d, want %d, %d", x.text, len(x.text), len(toks), at, e, x.at, x.e)
		}
		ask(t, x.text)
	}
	for _, from := range []string{"1", "9223372036854775800", "9223372036854775890", "9223372036854774807", "9223372037854775807", "18446744073709551610", "92233720368547758070", "999999999999999999"} {
		n, _ := new(big.Int).SetString(from, 10)
		for range 20 {
			ask(t, n.String())
			ask(t, n.String()+".x")
			n.Add(n, big.NewInt(1))
		}
	}
}

// TestScanBytes: P5.1: each byte by itself, beside tokens, in a string, in an escape, in a comment; and each two.
func TestScanBytes(t *testing.T) {
	for a := range 256 {
		c := string([]byte{byte(a)})
		for _, around := range [][2]string{{"", ""}, {" ", " "}, {"a", "a"}, {"1", "1"}, {"(", "="}, {`"`, `"`}, {`"`, ``}, {`"\`, `"`}, {`"\`, ``}, {`"\x`, `0"`}, {`"\x`, ``}, {`"\x0`, `"`}, {`"\x0`, ``}, {"--", "\na"}, {"--", "a"}, {`"a"`, `"a"`}} {
			ask(t, around[0]+c+around[1])
		}
		for b := range 256 {
			ask(t, c+string([]byte{byte(b)}))
		}
	}
}

// everyText asks of all texts of these pieces, up to so many.
func everyText(t *testing.T, ahead string, pieces []string, most int) {
	ask(t, ahead)
	if most == 0 {
		return
	}
	for _, p := range pieces {
		everyText(t, ahead+p, pieces, most-1)
	}
}

// TestScanShort: P5.1, P5.2: all short texts of what means something.
func TestScanShort(t *testing.T) {
	everyText(t, "", strings.Split(`a _ 0 9 " \ . - = < > ! ( & `+"\n \x80", " "), 4)
	everyText(t, " ", strings.Split(". - = < > ! * \n x", " "), 5)
	everyText(t, `"`, strings.Split(`" \ x n 4 G `+"\n", " "), 6)
	everyText(t, `"\x`, strings.Split(`0 9 a f g A F G " \ /`+" : ` @ \x10", " "), 3)
}

// TestScanLonger: P5.1, P5.2: texts of many pieces.
func TestScanLonger(t *testing.T) {
	pieces := []string{
		"PATTERN", "SEQ", "a", "b9", "_", "x_y", "sum", "i", "TRUE", strings.Repeat("n", 32), "0", "7", "12", "9223372036854775807", `""`, `"a b"`, `"\x00\xff\n\t\\\""`, `"--"`, `"` + strings.Repeat("s", 256) + `"`,
		" ", "  ", "\t", "\r\n", "\n", "-- x\n", "--\n", "--\"\xff\n",
		"(", ")", "[", "]", "{", "}", ",", ".", "..", "+", "-", "*", "=", "!=", "<", "<=", ">", ">=", "!",
	}
	rare := []string{"&", "\x00", "\xff", `"`, `\`, "007", "9223372036854775808", strings.Repeat("n", 33), `"\q"`, "--", `"` + strings.Repeat("s", 257) + `"`}
	r := rand.New(rand.NewSource(5))
	for range 20000 {
		var text strings.Builder
		for range r.Intn(40) {
			if r.Intn(60) == 0 {
				text.WriteString(rare[r.Intn(len(rare))])
			}
			text.WriteString(pieces[r.Intn(len(pieces))])
			if r.Intn(2) == 0 {
				text.WriteByte(' ')
			}
		}
		ask(t, text.String())
	}
}
