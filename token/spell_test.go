package token_test

import (
	"fmt"
	"math"
	"math/big"
	"math/rand"
	"reflect"
	"regexp"
	"slices"
	"strings"
	"sync"
	"testing"

	"refrain/api"
	"refrain/schema"
	"refrain/token"
)

var (
	wholeWord   = regexp.MustCompile(`^[A-Za-z_][A-Za-z0-9_]{0,31}$`)
	wholeNumber = regexp.MustCompile(`^(0|[1-9][0-9]*)$`)
)

const allSigns = " ( ) [ ] { } , . .. + - * = != < <= > >= ! "

// modelMay tells whether a token can be.
func modelMay(tok api.Tok) bool {
	s := tok.Text
	switch tok.Kind {
	case api.TWord:
		return len(s) <= 32 && wholeWord.MatchString(s)
	case api.TInt:
		n, ok := new(big.Int).SetString(s, 10)
		return ok && n.IsInt64() && wholeNumber.MatchString(s)
	case api.TStr:
		return len(s) <= 256
	case api.TSign:
		return s != "" && !strings.Contains(s, " ") && strings.Contains(allSigns, " "+s+" ")
	case api.TEnd:
		return s == ""
	}
	return false
}

// modelSpell is the text of tokens that can be, however long.
func modelSpell(toks []api.Tok) string {
	var texts []string
	for _, tok := range toks {
		switch tok.Kind {
		case api.TEnd:
		case api.TStr:
			texts = append(texts, modelQuote(tok.Text))
		default:
			texts = append(texts, tok.Text)
		}
	}
	return strings.Join(texts, " ")
}

func modelQuote(s string) string {
	out := ""
	for _, b := range []byte(s) {
		switch {
		case b == '"':
			out += `\"`
		case b == '\\':
			out += `\\`
		case b == 10:
			out += `\n`
		case b == 9:
			out += `\t`
		case b < 0x20, b > 0x7e:
			out += fmt.Sprintf(`\x%02x`, b)
		default:
			out += string(rune(b))
		}
	}
	return `"` + out + `"`
}

func modelSpellOrFault(toks []api.Tok) (string, api.Errno) {
	for i, tok := range toks {
		if !modelMay(tok) || tok.Kind == api.TEnd && i != len(toks)-1 {
			return "", api.ErrArg
		}
	}
	text := modelSpell(toks)
	if len(text) > 4096 {
		return "", api.ErrLong
	}
	return text, api.OK
}

// askSpell holds Spell of tokens against the model, and against Scan.
func askSpell(t *testing.T, toks ...api.Tok) {
	t.Helper()
	want, wantErr := modelSpellOrFault(toks)
	text, e := token.Spell(toks...)
	if text != want || e != wantErr {
		t.Fatalf("P5.2: Spell(%.200v) = %.200q, %d, want %.200q, %d", toks, text, e, want, wantErr)
	}
	if e != api.OK {
		return
	}
	if len(toks) == 0 || toks[len(toks)-1].Kind != api.TEnd {
		toks = append(slices.Clone(toks), end(0))
	}
	back, at, e := token.Scan(text)
	if !slices.Equal(unplaced(back), unplaced(toks)) || at != 0 || e != api.OK {
		t.Fatalf("P5.2: Scan(%.200q), which is Spell of %.200v, = %.200v, %d, %d", text, toks, back, at, e)
	}
}

// TestSpellExamples: P5.2, what the document writes out.
func TestSpellExamples(t *testing.T) {
	for _, x := range []struct {
		toks []api.Tok
		want string
		e    api.Errno
	}{
		{nil, "", api.OK}, {[]api.Tok{end(0)}, "", api.OK}, {[]api.Tok{word("a", 0), end(1)}, "a", api.OK}, {[]api.Tok{word("a", 0), word("a", 0)}, "a a", api.OK},
		{[]api.Tok{sign("-", 0), sign("-", 0), number("5", 0)}, "- - 5", api.OK}, {[]api.Tok{str("\"\xffA", 0)}, `"\"\xffA"`, api.OK}, {[]api.Tok{str("", 0), end(0)}, `""`, api.OK}, {[]api.Tok{str("\n\t\\\r\x7f~ \x1f", 0)}, `"\n\t\\\x0d\x7f~ \x1f"`, api.OK}, {[]api.Tok{str("\u00e4", 0)}, `"\xc3\xa4"`, api.OK},
		{[]api.Tok{sign(".", 0), sign(".", 0), sign("..", 0), sign("!", 0), sign("=", 0)}, ". . .. ! =", api.OK}, {[]api.Tok{number("1", 0), word("a", 0)}, "1 a", api.OK},
		{[]api.Tok{word("a", -1), sign(">=", math.MaxInt), number("0", math.MinInt), end(-7)}, "a >= 0", api.OK},
		{[]api.Tok{number("05", 0)}, "", api.ErrArg}, {[]api.Tok{word("a-b", 0)}, "", api.ErrArg}, {[]api.Tok{sign("--", 0)}, "", api.ErrArg}, {[]api.Tok{end(0), word("a", 0)}, "", api.ErrArg}, {[]api.Tok{end(0), end(0)}, "", api.ErrArg}, {[]api.Tok{word("a", 0), end(0), end(0)}, "", api.ErrArg}, {[]api.Tok{end(0), sign("?", 0)}, "", api.ErrArg},
		{[]api.Tok{{}}, "", api.ErrArg}, {[]api.Tok{{Kind: api.Tokens}}, "", api.ErrArg}, {[]api.Tok{{Kind: api.TEnd, Text: "x"}}, "", api.ErrArg}, {[]api.Tok{{Kind: api.TEnd, Text: " "}}, "", api.ErrArg}, {[]api.Tok{{Kind: api.TEnd, Text: "--"}}, "", api.ErrArg},
	} {
		if text, e := token.Spell(x.toks...); text != x.want || e != x.e {
			t.Errorf("Spell(%v) = %q, %d, want %q, %d", x.toks, text, e, x.want, x.e)
		}
		askSpell(t, x.toks...)
	}
}

// tokenTexts are texts, few of which a token of a kind can have.
func tokenTexts() []string {
	texts := []string{
		"", " ", "\n", "--", "-- x", "a", "a ", " a", "a\n", "a--", "_", "9a", "a9", "a.b", "a b", "\u00e9", "SEQ", "INT", "time", "\x00", "\xff", strings.Repeat("w", 31), strings.Repeat("w", 32), strings.Repeat("w", 33), strings.Repeat("w", 4096), strings.Repeat("w", 4097),
		"0", "00", "007", "7", "-7", "+7", "7 ", " 7", "7--", "7.", "1_0", "1e3", "0x7", "\u0663", "9223372036854775807", "9223372036854775808", "-9223372036854775808", "18446744073709551616", strings.Repeat("9", 400), strings.Repeat("0", 5000),
		"&", "?", "/", ";", "'", `\`, "()", "...", "==", "=<", "=>", "<>", "><", "=!", "!!", "! =", "!==", "..=", "- -", ".=", "!.", "<.", "**", "+-", "(a", "<=1",
		`"`, `""`, `"a"`, `"a`, `\n`, `\x41`, `"\q"`, strings.Repeat("s", 255), strings.Repeat("s", 256), strings.Repeat("s", 257), strings.Repeat("\xff", 256), strings.Repeat("\xff", 257), strings.Repeat("s", 1<<20), strings.Repeat("\u20ac", 85), strings.Repeat("\u20ac", 86),
	}
	return append(texts, strings.Fields(allSigns)...)
}

// TestSpellTokens: P5.2: each text as a token of each kind, and of what is no kind.
func TestSpellTokens(t *testing.T) {
	texts := tokenTexts()
	for a := range 256 {
		c := string([]byte{byte(a)})
		texts = append(texts, c, "a"+c, c+"a", "1"+c, c+"1", "."+c, c+"=", "<"+c)
	}
	for _, text := range texts {
		for _, kind := range []int{api.TWord, api.TInt, api.TStr, api.TSign, api.TEnd, 0, 6, 7, -1, 256 + 1, 1<<32 + 1, math.MaxInt, math.MinInt} {
			tok := api.Tok{Kind: kind, Text: text, At: len(text) + kind%100}
			askSpell(t, tok)
			askSpell(t, tok, end(3))
			askSpell(t, tok, word("b", 0))
			askSpell(t, word("b", 0), tok)
			askSpell(t, sign("-", 0), tok, sign("-", 9), end(0))
			askSpell(t, tok, tok)
		}
	}
}

// TestSpellMany: P5.2: lists of tokens, of which now and then one cannot be.
func TestSpellMany(t *testing.T) {
	texts := tokenTexts()
	r := rand.New(rand.NewSource(6))
	for range 20000 {
		var toks []api.Tok
		for range r.Intn(20) {
			tok := api.Tok{Kind: 1 + r.Intn(4), Text: texts[r.Intn(len(texts))], At: r.Intn(9)}
			if modelMay(tok) || r.Intn(200) == 0 {
				toks = append(toks, tok)
			}
		}
		if r.Intn(2) == 0 {
			toks = append(toks, end(r.Intn(9)))
		}
		if r.Intn(50) == 0 {
			toks = append(toks, word("a", 0))
		}
		askSpell(t, toks...)
	}
}

// TestSpellLong: P5.2: the longest text and one more; ErrArg comes ahead, wherever it stands.
func TestSpellLong(t *testing.T) {
	zeros := func(n int, behind string) api.Tok { return str(strings.Repeat("\x00", n)+behind, 0) }
	full := slices.Clip(slices.Repeat([]api.Tok{zeros(256, "")}, 3))
	for _, x := range []struct {
		behind []api.Tok
		bytes  int
		e      api.Errno
	}{
		{[]api.Tok{zeros(253, "")}, 4095, api.OK}, {[]api.Tok{zeros(253, "a")}, 4096, api.OK}, {[]api.Tok{zeros(253, "a"), end(0)}, 4096, api.OK}, {[]api.Tok{zeros(253, "ab")}, 0, api.ErrLong}, {[]api.Tok{zeros(253, "ab"), end(0)}, 0, api.ErrLong},
		{[]api.Tok{zeros(252, "ab"), sign(".", 0), end(0)}, 4095, api.OK}, {[]api.Tok{zeros(252, "abc"), sign(".", 0)}, 4096, api.OK}, {[]api.Tok{zeros(252, "abc"), sign("..", 0)}, 0, api.ErrLong}, {[]api.Tok{zeros(253, "a"), sign(".", 0)}, 0, api.ErrLong}, {[]api.Tok{zeros(256, "")}, 0, api.ErrLong},
		{append(full, full...), 0, api.ErrLong}, {append(full, full[0], number("01", 0)), 0, api.ErrArg}, {append(full, full[0], zeros(257, "")), 0, api.ErrArg}, {append(full, end(0), end(0)), 0, api.ErrArg}, {append(full, end(0), full[0]), 0, api.ErrArg}, {append(full, end(0)), 0, api.ErrLong}, {append(full, full[0], api.Tok{}), 0, api.ErrArg},
	} {
		toks := slices.Concat(full, x.behind)
		if text, e := token.Spell(toks...); len(text) != x.bytes || e != x.e {
			t.Errorf("Spell of three long strings and %.80v has %d bytes, %d, want %d, %d", x.behind, len(text), e, x.bytes, x.e)
		}
		askSpell(t, toks...)
	}
	for n := 2040; n < 2056; n++ {
		dots := slices.Repeat([]api.Tok{sign(".", 0)}, n)
		askSpell(t, dots...)
		askSpell(t, append(dots, end(0))...)
		askSpell(t, append(dots, sign("..", 0))...)
		askSpell(t, append(dots, sign("--", 0))...)
	}
	many := slices.Repeat(full, 30000)
	if text, e := token.Spell(many...); text != "" || e != api.ErrLong {
		t.Errorf("Spell of many = %.20q, %d", text, e)
	}
	many[len(many)-1].Kind = 0
	if text, e := token.Spell(many...); text != "" || e != api.ErrArg {
		t.Errorf("Spell of many, the last one wrong = %.20q, %d", text, e)
	}
}

// TestWord: P5.3: the sixteen and no others; of what has a name's letters they are what is no name.
func TestWord(t *testing.T) {
	words := []string{"PATTERN", "SEQ", "PARTITION", "BY", "WHERE", "WITHIN", "RETURN", "AND", "OR", "NOT", "TRUE", "FALSE", "TYPE", "INT", "STR", "BOOL"}
	others := []string{"", " ", "any", "next", "strict", "count", "sum", "min", "max", "i", "first", "last", "time", "IN", "AS", "FROM", "SELECT", "INTS", "ANY", "_", "A", "\xff", "\x00", "9", "(", strings.Repeat("SEQ", 1000)}
	for _, w := range words {
		if !token.Word(w) {
			t.Errorf("Word(%q) = false", w)
		}
		others = append(others, strings.ToLower(w), w[:1]+strings.ToLower(w[1:]), strings.ToLower(w[:1])+w[1:], w+" ", " "+w, w+"\n", w+"\x00", w+"S", "X"+w, w[1:], w[:len(w)-1], w+w, w+"_", "\""+w+"\"")
		for i := range w {
			others = append(others, w[:i]+"Q"+w[i+1:], w[:i]+w[i:i+1]+w[i:])
		}
	}
	for _, s := range others {
		if want := slices.Contains(words, s); token.Word(s) != want {
			t.Errorf("Word(%q) = %v", s, !want)
		}
		if wholeWord.MatchString(s) && token.Word(s) == schema.Name(s) {
			t.Errorf("Word(%q) = %v, and so is schema's Name", s, token.Word(s))
		}
	}
}

// TestMemory: P5.4: what is handed in stays as it is, its spare room too; what is handed out is nobody else's.
func TestMemory(t *testing.T) {
	room := []api.Tok{word("a", 7), sign("-", 8), str("\n", 9), end(10), word("spare", 11), {Kind: 99, Text: "spare", At: 12}}
	want := slices.Clone(room)
	for n := range len(room) + 1 {
		for range 2 {
			token.Spell(room[:n]...)
		}
	}
	if !slices.Equal(room, want) {
		t.Errorf("the tokens that were handed in have changed: %v", room)
	}
	for _, text := range []string{"", "a", `a."b" >= 12 -- c`, strings.Repeat(". ", 1000)} {
		a, _, _ := token.Scan(text)
		b, _, _ := token.Scan(text)
		kept := slices.Clone(b)
		spare := a[:cap(a)]
		for i := range spare {
			spare[i] = api.Tok{Kind: 99, Text: "spoilt", At: 99}
		}
		c, _, _ := token.Scan(text)
		if !slices.Equal(b, kept) || !slices.Equal(c, kept) {
			t.Errorf("what Scan(%.20q) answered is another's", text)
		}
	}
}

// TestAlike: P5.4, P0.5: the same calls answer the same, whatever is asked beside them.
func TestAlike(t *testing.T) {
	play := func() []any {
		var out []any
		for _, text := range tokenTexts() {
			toks, at, e := token.Scan(text)
			spelt, e2 := token.Spell(toks...)
			out = append(out, toks, at, e, spelt, e2, token.Word(text))
		}
		return out
	}
	want := play()
	var wait sync.WaitGroup
	for range 8 {
		wait.Go(func() {
			for range 20 {
				if got := play(); !reflect.DeepEqual(got, want) {
					t.Error("the same calls answered otherwise")
					return
				}
			}
		})
	}
	wait.Wait()
}
