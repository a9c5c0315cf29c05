package parse_test

import (
	"math/rand"
	"regexp"
	"slices"
	"strings"
	"testing"

	"refrain/api"
	"refrain/parse"
	"refrain/token"
	"refrain/tree"
)

// grammar is that of doc/00-meaning.md, as it stands there.
const grammar = `
    query    = "PATTERN" "SEQ" "(" comp { "," comp } ")" [ "PARTITION" "BY" NAME ]
               [ "WHERE" strategy [ "{" cond { "," cond } "}" ] ]
               "WITHIN" INT "RETURN" [ NAME ] "(" item { "," item } ")"
    comp     = NAME NAME | NAME "+" NAME "[" "]" | "!" "(" NAME NAME ")"
    strategy = "any" | "next" | "strict"
    cond     = "[" NAME "]" | expr
    item     = NAME "=" expr
    expr     = and { "OR" and }
    and      = not { "AND" not }
    not      = "NOT" not | rel
    rel      = sum [ ( "=" | "!=" | "<" | "<=" | ">" | ">=" ) sum ]
    sum      = product { ( "+" | "-" ) product }
    product  = sign { "*" sign }
    sign     = "-" sign | prime
    prime    = INT | STRING | "TRUE" | "FALSE" | ref | agg | "(" expr ")"
    ref      = NAME "." NAME | NAME "[" place "]" "." NAME
    place    = "i" | "i" "-" "1" | "first" | "last"
    agg      = "count" "(" NAME [ before ] ")" | ( "sum" | "min" | "max" ) "(" NAME [ before ] "." NAME ")"
    before   = "[" ".." "i" "-" "1" "]"
`

// part is a part of the grammar. It finds all places behind what it takes, from each of some places on, whichever way it takes it.
type part func(m *match, from []int) []int

// match is a row of tokens that is held against the grammar.
type match struct {
	rules map[string]part
	toks  []api.Tok
	far   int // the farthest token that any way was asked about: all ahead of it can go on to that one
}

// one takes a token.
func one(may func(api.Tok) bool) part {
	return func(m *match, from []int) []int {
		var out []int
		for _, p := range from {
			m.far = max(m.far, p)
			if may(m.toks[p]) {
				out = append(out, p+1)
			}
		}
		return out
	}
}

func join(a, b []int) []int {
	out := slices.Concat(a, b)
	slices.Sort(out)
	return slices.Compact(out)
}

// ruleText reads the grammar's text.
type ruleText struct {
	pieces []string
}

func (g *ruleText) has(s string) bool {
	if len(g.pieces) == 0 || g.pieces[0] != s {
		return false
	}
	g.pieces = g.pieces[1:]
	return true
}

// either are parts of which one is taken.
func (g *ruleText) either() part {
	p := g.row()
	for g.has("|") {
		ahead, behind := p, g.row()
		p = func(m *match, from []int) []int { return join(ahead(m, from), behind(m, from)) }
	}
	return p
}

// row is parts one after the other.
func (g *ruleText) row() part {
	p := g.piece()
	for len(g.pieces) > 0 && !strings.Contains("|)]}", g.pieces[0]) && !(len(g.pieces) > 1 && g.pieces[1] == "=") {
		ahead, behind := p, g.piece()
		p = func(m *match, from []int) []int { return behind(m, ahead(m, from)) }
	}
	return p
}

func (g *ruleText) piece() part {
	s := g.pieces[0]
	g.pieces = g.pieces[1:]
	switch s {
	case "(":
		p := g.either()
		g.has(")")
		return p
	case "[":
		p := g.either()
		g.has("]")
		return func(m *match, from []int) []int { return join(from, p(m, from)) }
	case "{":
		p := g.either()
		g.has("}")
		return func(m *match, from []int) []int {
			all := from
			for more := from; len(more) > 0; all = join(all, more) {
				more = p(m, more)
			}
			return all
		}
	case "NAME":
		return one(func(t api.Tok) bool { return t.Kind == api.TWord && !token.Word(t.Text) })
	case "INT":
		return one(func(t api.Tok) bool { return t.Kind == api.TInt })
	case "STRING":
		return one(func(t api.Tok) bool { return t.Kind == api.TStr })
	case "END":
		return one(func(t api.Tok) bool { return t.Kind == api.TEnd })
	}
	if text, ok := strings.CutPrefix(s, `"`); ok {
		text = strings.TrimSuffix(text, `"`)
		return one(func(t api.Tok) bool { return t.Kind != api.TStr && t.Text == text })
	}
	return func(m *match, from []int) []int {
		if len(from) == 0 {
			return nil
		}
		return m.rules[s](m, from)
	}
}

// rules are those of the grammar, and those of whole texts.
var rules = func() map[string]part {
	out := map[string]part{}
	g := ruleText{regexp.MustCompile(`"[^"]*"|\w+|[=|(){}\[\]]`).FindAllString(grammar+" Query = query END Expr = expr END", -1)}
	for len(g.pieces) > 0 {
		name := g.pieces[0]
		g.pieces = g.pieces[2:]
		out[name] = g.either()
	}
	return out
}()

// wantAt is the number of the first token with which a whole text of a rule cannot go on; false: there is none.
func wantAt(rule string, toks []api.Tok) (int, bool) {
	m := match{rules: rules, toks: toks}
	if len(rules[rule](&m, []int{0})) > 0 {
		return 0, false
	}
	return m.far, true
}

// ask holds a short text against the grammar. It tells how many tokens were taken.
func ask(t *testing.T, rule, text string) int {
	t.Helper()
	toks, _, e := token.Scan(text)
	if e != api.OK {
		t.Fatalf("no tokens: %q", text)
	}
	n, bad := wantAt(rule, toks)
	want, at := api.OK, 0
	if bad {
		want, at = api.ErrWant, toks[n].At
	} else {
		n = len(toks)
	}
	got, gotAt := api.OK, 0
	if rule == "Query" {
		got, gotAt = askQuery(t, text)
	} else {
		got, gotAt = askExpr(t, text)
	}
	if got != want || gotAt != at {
		t.Fatalf("P7.1: %s(%q): %d, %d, want %d, %d", rule, text, gotAt, got, at, want)
	}
	return n
}

// askQuery holds Query against what it says of all texts: of an error all is zero; else it goes there and back.
func askQuery(t *testing.T, text string) (api.Errno, int) {
	t.Helper()
	q, spots, at, e := parse.Query(text)
	if e != api.OK {
		if !zeroQuery(q) || !zeroSpots(spots) {
			t.Fatalf("P7.1: Query(%q): %d, and %+v, %+v", text, e, q, spots)
		}
		return e, at
	}
	s, f := tree.Print(q)
	if f != tree.Check(q) || f != api.OK && f != api.ErrLong && q.Within <= api.MaxTime {
		t.Fatalf("P7.3: Query(%q): %+v, Print of it %d, Check %d", text, q, f, tree.Check(q))
	}
	if f == api.OK {
		back, _, _, e := parse.Query(s)
		if e != api.OK || !sameQuery(back, q) {
			t.Fatalf("P7.3: Query(%q) = %+v, of its text %q it is %+v, %d", text, q, s, back, e)
		}
	}
	return e, at
}

// askExpr is likewise of Expr.
func askExpr(t *testing.T, text string) (api.Errno, int) {
	t.Helper()
	x, at, e := parse.Expr(text)
	if e != api.OK {
		if !tree.Equal(x, api.Expr{}) {
			t.Fatalf("P7.2: Expr(%q): %d, and %+v", text, e, x)
		}
		return e, at
	}
	s, f := tree.PrintExpr(x)
	if f != api.OK && f != api.ErrLong {
		t.Fatalf("P7.3: Expr(%q): %+v, PrintExpr of it %d", text, x, f)
	}
	if f == api.OK {
		back, _, e := parse.Expr(s)
		if e != api.OK || !tree.Equal(back, x) {
			t.Fatalf("P7.3: Expr(%q) = %+v, of its text %q it is %+v, %d", text, x, s, back, e)
		}
	}
	return e, at
}

// goOn asks about all texts that begin with some tokens and go on with up to n of these; behind what cannot go on it does not look. It tells how many it asked about.
func goOn(t *testing.T, rule, begin, words string, n int) int {
	t.Helper()
	toks, _, _ := token.Scan(begin)
	asked := 1
	if taken := ask(t, rule, begin); n == 0 || taken < len(toks)-1 {
		return asked
	}
	for _, w := range strings.Fields(words) {
		asked += goOn(t, rule, begin+" "+w, words, n-1)
	}
	return asked
}

// TestEach: P7.1, P7.2: all short texts, and all that begin in some way and go on shortly: the first token that cannot stand.
func TestEach(t *testing.T) {
	for _, x := range []struct {
		rule, begin, words string
		n                  int
	}{
		{"Expr", "", `1 2 "i" "(" a i sum count first TRUE NOT AND OR ( ) [ ] { , . .. + - * = <= ! SEQ any`, 4},
		{"Expr", "", `1 a NOT AND ( ) . - * < =`, 6},
		{"Expr", "a [", `1 0 "1" i "i" j - + ] . .. last first a (`, 6},
		{"Expr", "max (", `1 i - ] [ . .. last a ) ( AND`, 10},
		{"Expr", "count ( a [", `1 11 i "i" - ] . .. last first a ) (`, 8},
		{"Expr", "( NOT 1", `1 a . OR AND NOT ( ) * >`, 6},
		{"Query", "", `1 "a" a any SEQ PATTERN PARTITION BY WHERE WITHIN RETURN ( ) [ ] { } , + - ! = . TRUE`, 4},
		{"Query", "PATTERN SEQ ( ! (", `1 "a" a any SEQ PATTERN PARTITION BY WHERE WITHIN RETURN ( ) [ ] { } , + - ! = . TRUE`, 6},
		{"Query", "PATTERN SEQ ( a + a [ ] ,", `a + [ ] ! ( ) , SEQ WHERE`, 7},
		{"Query", "PATTERN SEQ ( a a )", `PARTITION BY k BOOL WHERE any next strict { [ ] 1 , } WITHIN`, 7},
		{"Query", "PATTERN SEQ ( a a ) WHERE strict {", `[ ] a "a" NOT 1 , } = . ( )`, 6},
		{"Query", "PATTERN SEQ ( a a ) WITHIN 0", `RETURN a TYPE ( ) = 1 ,`, 9},
		{"Query", "PATTERN SEQ ( a a ) WHERE any WITHIN", `RETURN a - 1 "1" 9223372036854775807 ( ) {`, 5},
	} {
		if asked := goOn(t, x.rule, x.begin, x.words, x.n); asked < 50 {
			t.Errorf("%s from %q on: %d texts alone", x.rule, x.begin, asked)
		}
	}
}

// TestChanged: P7.1: queries of which tokens are taken away, put in, put in another place: the first one that cannot stand.
func TestChanged(t *testing.T) {
	r := rand.New(rand.NewSource(71))
	refused := 0
	for range 2500 {
		s := script{r: r}
		s.query(someQuery(r, 3), false)
		toks, _, _ := token.Scan(s.text)
		toks = toks[:len(toks)-1]
		for range 5 {
			list := slices.Clone(toks)
			for range 1 + r.Intn(2) {
				i, other := r.Intn(len(list)), list[r.Intn(len(list))]
				switch r.Intn(5) {
				case 0:
					list = slices.Delete(list, i, i+1)
				case 1:
					list = slices.Insert(list, i, other)
				case 2:
					list[i] = other
				case 3:
					list = list[:max(1, i)]
				case 4: // what it says as a string, which is another token
					list[i] = api.Tok{Kind: api.TStr, Text: list[i].Text}
				}
			}
			text, e := token.Spell(list...)
			if e != api.OK {
				t.Fatalf("no text: %v", list)
			}
			if ask(t, "Query", text) <= len(list) {
				refused++
			}
		}
	}
	if refused < 6000 {
		t.Errorf("too few queries were refused: %d", refused)
	}
}
