package schema_test

import (
	"regexp"
	"slices"
	"strings"
	"testing"

	"refrain/api"
	"refrain/schema"
)

var language = []string{"PATTERN", "SEQ", "PARTITION", "BY", "WHERE", "WITHIN", "RETURN", "AND", "OR", "NOT", "TRUE", "FALSE", "TYPE", "INT", "STR", "BOOL"}

var nameForm = regexp.MustCompile(`^[A-Za-z_][A-Za-z0-9_]{0,31}$`)

// isName is what doc/02-schema.md says of a name, said another way. ($ of the form takes a line's end too.)
func isName(s string) bool {
	return nameForm.MatchString(s) && !strings.HasSuffix(s, "\n") && !slices.Contains(language, s)
}

// oddNames are texts that are names, nearly names, or far from it.
func oddNames() []string {
	out := []string{
		"", "Trade", "_", "_9", "__", "a", "Z", "time", "Time", "TIME", "x9", "9", "9a", "09", "type", "Pattern", "any", "i", "first", "a-b", "a b", " a", "a ", "a\n", "\na", "a\x00", "\x00", "a.b", "a()", `"a"`,
		"\xc3\xa9", "\xff", "a\xff", "a\xc3", "\u00e4", "a\u0661", "\u0661", "\u212a", "\uff21", "a\u0301", "\ufffd", "caf\u00e9",
	}
	for n := 30; n < 36; n++ {
		out = append(out, strings.Repeat("n", n), strings.Repeat("_", n), "a"+strings.Repeat("0", n-1), "9"+strings.Repeat("a", n-1), strings.Repeat("a", n-1)+"-", strings.Repeat("a", n-2)+"\u00e4")
	}
	for _, w := range language {
		out = append(out, w, w+"_", "_"+w, w+"9", w+w, w[1:], w[:len(w)-1], strings.ToLower(w), w[:1]+strings.ToLower(w[1:]), strings.ToLower(w[:1])+w[1:], w+" ", " "+w)
	}
	return append(out, strings.Repeat("a", 100000), strings.Repeat("\xff", 100000))
}

// TestName: P2.1.
func TestName(t *testing.T) {
	texts := oddNames()
	for c := range 256 {
		b := string([]byte{byte(c)})
		texts = append(texts, b, "a"+b, b+"a", "a"+b+"a", strings.Repeat("a", 31)+b, strings.Repeat("a", 32)+b, b+strings.Repeat("a", 31))
	}
	for _, s := range texts {
		if got := schema.Name(s); got != isName(s) {
			t.Errorf("Name(%.50q) = %v", s, got)
		}
	}
}

// TestNameExamples: P2.1, what the document writes out.
func TestNameExamples(t *testing.T) {
	for _, s := range []string{"Trade", "_9", "time", "type", "Pattern", strings.Repeat("n", api.MaxName)} {
		if !schema.Name(s) {
			t.Errorf("Name(%q) = false", s)
		}
	}
	for _, s := range append([]string{"", "9a", "a-b", strings.Repeat("n", 33), "\xc3\xa9"}, language...) {
		if schema.Name(s) {
			t.Errorf("Name(%q) = true", s)
		}
	}
}
