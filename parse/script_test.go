package parse_test

import (
	"fmt"
	"math/rand"
	"reflect"
	"slices"
	"strings"
	"testing"

	"refrain/api"
	"refrain/parse"
	"refrain/token"
	"refrain/tree"
)

func lit(v api.Value) api.Expr { return api.Expr{Kind: api.ELit, Val: v} }
func num(n int64) api.Expr     { return lit(api.Value{Kind: api.KInt, Int: n}) }
func str(s string) api.Expr    { return lit(api.Value{Kind: api.KStr, Str: s}) }
func truth(b bool) api.Expr    { return lit(api.Value{Kind: api.KBool, Bool: b}) }

func ref(v string, at int, attr string) api.Expr {
	return api.Expr{Kind: api.ERef, Var: v, At: at, Attr: attr}
}

func agg(fn int, v string, at int, attr string) api.Expr {
	return api.Expr{Kind: api.EAgg, Op: fn, Var: v, At: at, Attr: attr}
}

func un(op int, x api.Expr) api.Expr {
	return api.Expr{Kind: api.EUn, Op: op, Kids: []api.Expr{x}}
}

func bin(op int, x, y api.Expr) api.Expr {
	return api.Expr{Kind: api.EBin, Op: op, Kids: []api.Expr{x, y}}
}

// sameQuery: nil lists are the same as empty ones.
func sameQuery(a, b api.Query) bool {
	return slices.Equal(a.Comps, b.Comps) && a.Part == b.Part && a.Strategy == b.Strategy && slices.Equal(a.Equiv, b.Equiv) && slices.EqualFunc(a.Where, b.Where, tree.Equal) && a.Within == b.Within && a.Out == b.Out && slices.EqualFunc(a.Items, b.Items, func(x, y api.Item) bool { return x.Name == y.Name && tree.Equal(x.Expr, y.Expr) })
}

func sameSpots(a, b api.Spots) bool {
	return slices.Equal(a.Comps, b.Comps) && a.Part == b.Part && slices.Equal(a.Equiv, b.Equiv) && slices.Equal(a.Where, b.Where) && a.Within == b.Within && a.Out == b.Out && slices.Equal(a.Items, b.Items)
}

func zeroQuery(q api.Query) bool { return sameQuery(q, api.Query{}) }
func zeroSpots(s api.Spots) bool { return sameSpots(s, api.Spots{}) }

// script writes trees in any of the ways in which they may be written, and notes where.
type script struct {
	r     *rand.Rand // nil: with as little as may be
	text  string
	last  string // the last token
	wide  bool   // all brackets
	spots api.Spots
}

// put writes tokens, and answers the place of the first one.
func (s *script) put(toks ...string) int {
	first := -1
	for _, tok := range toks {
		s.gap(tok)
		if first < 0 {
			first = len(s.text)
		}
		s.text, s.last = s.text+tok, tok
	}
	return first
}

func (s *script) chance(n int) bool { return s.r != nil && s.r.Intn(n) == 0 }

// gap writes what stands ahead of a token: nothing, if it may.
func (s *script) gap(tok string) {
	gaps := []string{" ", " ", "\t", "\n", "\r\n", "   ", " -- a (b) \"\n", "\n--\r\n"}
	if s.last != "-" {
		gaps = append(gaps, "-- -\n")
	}
	both, _, e := token.Scan(s.last + tok)
	apart := e != api.OK || len(both) != 3 || both[1].At != len(s.last)
	switch {
	case (!apart || s.last == "") && !s.chance(3):
	case s.r == nil:
		s.text += " "
	default:
		s.text += gaps[s.r.Intn(len(gaps))]
	}
}

// levels of the operations, as the grammar has them, and their signs.
var (
	levels = map[int]int{api.OOr: 1, api.OAnd: 2, api.ONot: 3, api.OEq: 4, api.ONe: 4, api.OLt: 4, api.OLe: 4, api.OGt: 4, api.OGe: 4, api.OAdd: 5, api.OSub: 5, api.OMul: 6, api.ONeg: 7}
	signs  = map[int]string{api.OOr: "OR", api.OAnd: "AND", api.ONot: "NOT", api.OEq: "=", api.ONe: "!=", api.OLt: "<", api.OLe: "<=", api.OGt: ">", api.OGe: ">=", api.OAdd: "+", api.OSub: "-", api.OMul: "*", api.ONeg: "-"}
	ats    = map[int][]string{api.AtOne: nil, api.AtCur: {"[", "i", "]"}, api.AtPrev: {"[", "i", "-", "1", "]"}, api.AtFirst: {"[", "first", "]"}, api.AtLast: {"[", "last", "]"}, api.AtAll: nil, api.AtBefore: {"[", "..", "i", "-", "1", "]"}}
	fns    = map[int]string{api.FCount: "count", api.FSum: "sum", api.FMin: "min", api.FMax: "max"}
)

func levelOf(e api.Expr) int {
	if n := levels[e.Op]; n > 0 && (e.Kind == api.EUn || e.Kind == api.EBin) {
		return n
	}
	return 8
}

// expr writes an expression where one of at least a level may stand without brackets, and answers its place.
func (s *script) expr(e api.Expr, least int) int {
	if levelOf(e) < least || s.wide && least > 0 || s.chance(8) {
		at := s.put("(")
		s.expr(e, 0)
		s.put(")")
		return at
	}
	switch e.Kind {
	case api.ELit:
		return s.put(s.literal(e.Val))
	case api.ERef:
		at := s.put(e.Var)
		s.put(ats[e.At]...)
		s.put(".", e.Attr)
		return at
	case api.EAgg:
		at := s.put(fns[e.Op], "(", e.Var)
		s.put(ats[e.At]...)
		if e.Op != api.FCount {
			s.put(".", e.Attr)
		}
		s.put(")")
		return at
	case api.EUn:
		at := s.put(signs[e.Op])
		s.expr(e.Kids[0], levels[e.Op])
		return at
	}
	level := levels[e.Op]
	first := level
	if level == 4 { // relations do not chain
		first++
	}
	at := s.expr(e.Kids[0], first)
	s.put(signs[e.Op])
	s.expr(e.Kids[1], level+1)
	return at
}

func (s *script) literal(v api.Value) string {
	switch v.Kind {
	case api.KInt:
		return fmt.Sprint(v.Int)
	case api.KBool:
		return strings.ToUpper(fmt.Sprint(v.Bool))
	}
	text, _ := token.Spell(api.Tok{Kind: api.TStr, Text: v.Str})
	return text
}

// commas stand ahead of all elements of a list but the first.
func (s *script) comma(i int) {
	if i > 0 {
		s.put(",")
	}
}

// query writes a query: its conditions in their order, the equivalences somewhere between them. Bare: a WHERE that says nothing stands, too.
func (s *script) query(q api.Query, bare bool) {
	s.put("PATTERN", "SEQ", "(")
	for i, c := range q.Comps {
		s.comma(i)
		form := []string{c.Type, c.Var}
		if c.Plus {
			form = []string{c.Type, "+", c.Var, "[", "]"}
		} else if c.Neg {
			form = []string{"!", "(", c.Type, c.Var, ")"}
		}
		s.spots.Comps = append(s.spots.Comps, s.put(form...))
	}
	s.put(")")
	if q.Part != "" {
		s.put("PARTITION", "BY")
		s.spots.Part = s.put(q.Part)
	}
	n := len(q.Equiv) + len(q.Where)
	if n > 0 || q.Strategy != api.Any || bare {
		s.put("WHERE", map[int]string{api.Any: "any", api.Next: "next", api.Strict: "strict"}[q.Strategy])
	}
	equiv, where := q.Equiv, q.Where
	for i := range n {
		s.put(map[bool]string{true: "{", false: ","}[i == 0])
		if len(where) == 0 || len(equiv) > 0 && (s.r == nil || s.r.Intn(n-i) < len(equiv)) {
			s.spots.Equiv = append(s.spots.Equiv, s.put("[", equiv[0], "]"))
			equiv = equiv[1:]
		} else {
			s.spots.Where = append(s.spots.Where, s.expr(where[0], 0))
			where = where[1:]
		}
	}
	if n > 0 {
		s.put("}")
	}
	s.put("WITHIN")
	s.spots.Within = s.put(fmt.Sprint(q.Within))
	s.put("RETURN")
	if q.Out != "" {
		s.spots.Out = s.put(q.Out)
	}
	s.put("(")
	for i, item := range q.Items {
		s.comma(i)
		s.spots.Items = append(s.spots.Items, s.put(item.Name))
		s.put("=")
		s.expr(item.Expr, 0)
	}
	s.put(")")
}

func someName(r *rand.Rand) string {
	return []string{"a", "b", "T", "_", "any", "next", "strict", "count", "sum", "min", "max", "i", "first", "last", "time", "Seq", "x1", strings.Repeat("n", 32)}[r.Intn(18)]
}

func someExpr(r *rand.Rand, depth int) api.Expr {
	if depth > 1 && r.Intn(5) > 0 {
		if r.Intn(3) == 0 {
			return un([]int{api.ONeg, api.ONot}[r.Intn(2)], someExpr(r, depth-1))
		}
		return bin(api.OAdd+r.Intn(11), someExpr(r, depth-1), someExpr(r, depth-1))
	}
	switch r.Intn(6) {
	case 0:
		return num(r.Int63() >> r.Intn(63))
	case 1:
		return str([]string{"", "a", "\"\\\n\t\x00\x7f\xff", "--", "(", "TRUE", "1"}[r.Intn(7)])
	case 2:
		return truth(r.Intn(2) == 0)
	case 3:
		return agg(api.FCount, someName(r), api.AtAll+r.Intn(2), "")
	case 4:
		return agg(api.FSum+r.Intn(3), someName(r), api.AtAll+r.Intn(2), someName(r))
	}
	return ref(someName(r), api.AtOne+r.Intn(5), someName(r))
}

func someQuery(r *rand.Rand, depth int) api.Query {
	q := api.Query{Strategy: 1 + r.Intn(3), Within: r.Int63() >> (1 + r.Intn(62))}
	for range 1 + r.Intn(4) {
		kind := r.Intn(3)
		q.Comps = append(q.Comps, api.Comp{Neg: kind == 1, Plus: kind == 2, Type: someName(r), Var: someName(r)})
	}
	for range r.Intn(4) {
		q.Equiv = append(q.Equiv, someName(r))
	}
	for range r.Intn(4) {
		q.Where = append(q.Where, someExpr(r, depth))
	}
	for range 1 + r.Intn(3) {
		q.Items = append(q.Items, api.Item{Name: someName(r), Expr: someExpr(r, depth)})
	}
	if r.Intn(2) == 0 {
		q.Part = someName(r)
	}
	if r.Intn(2) == 0 {
		q.Out = someName(r)
	}
	return q
}

// TestWritten: P7.1, P7.3: queries that are written in many ways are read as these, with the places where they were written.
func TestWritten(t *testing.T) {
	r := rand.New(rand.NewSource(73))
	long := 0
	for n := range 3000 {
		q := someQuery(r, 1+r.Intn(4))
		s := script{r: r, wide: n%4 == 0}
		s.query(q, n%2 == 0)
		got, spots, at, e := parse.Query(s.text)
		if len(s.text) > api.MaxText {
			long++
			if e != api.ErrLong || at != 0 {
				t.Fatalf("P7.1: a text of %d bytes: %d, %d", len(s.text), at, e)
			}
			continue
		}
		if e != api.OK || at != 0 || !sameQuery(got, q) || !sameSpots(spots, s.spots) {
			t.Fatalf("P7.1: Query(%q): %+v, %+v, %d, %d, want %+v, %+v", s.text, got, spots, at, e, q, s.spots)
		}
		askQuery(t, s.text)
		text, f := tree.Print(q)
		if back, _, _, e := parse.Query(text); f == api.OK && (e != api.OK || !sameQuery(back, q)) {
			t.Fatalf("P7.3: Query(%q): %+v, %d, want %+v", text, back, e, q)
		}
	}
	if long > 150 {
		t.Errorf("too many queries are too long: %d", long)
	}
}

// smallExprs are all expressions of all operations, one within another.
func smallExprs() []api.Expr {
	out := []api.Expr{num(1), ref("a", api.AtOne, "x")}
	for range 2 {
		var more []api.Expr
		for _, x := range out {
			for op := range levels {
				if op == api.ONeg || op == api.ONot {
					more = append(more, un(op, x))
					continue
				}
				for _, y := range out {
					if len(x.Kids) == 0 || len(y.Kids) == 0 || levels[x.Op] != levels[op] || levels[y.Op] != levels[op] || x.Kind == y.Kind {
						more = append(more, bin(op, x, y))
					}
				}
			}
		}
		out = append(out[:1:1], more...)
	}
	return out
}

// TestExprWritten: P7.2, P7.3: all small expressions, with all brackets and with as few as chance will have; and random great ones.
func TestExprWritten(t *testing.T) {
	r := rand.New(rand.NewSource(72))
	list := smallExprs()
	if len(list) < 10000 {
		t.Fatalf("too few expressions: %d", len(list))
	}
	for range 2000 {
		list = append(list, someExpr(r, 6))
	}
	for _, x := range list {
		for _, wide := range []bool{false, true} {
			s := script{r: r, wide: wide}
			s.expr(x, 0)
			s.gap("")
			got, at, e := parse.Expr(s.text)
			if len(s.text) > api.MaxText {
				continue
			}
			if e != api.OK || at != 0 || !tree.Equal(got, x) {
				t.Fatalf("P7.2: Expr(%q): %+v, %d, %d, want %+v", s.text, got, at, e, x)
			}
		}
		text, _ := tree.PrintExpr(x)
		if got, _, e := parse.Expr(text); e != api.OK || !tree.Equal(got, x) {
			t.Fatalf("P7.3: Expr(%q): %+v, %d, want %+v", text, got, e, x)
		}
	}
}

// TestTreeFields: P7.1: fields that a kind does not speak of are zero, lists are as long as they should be. (tree.Equal holds no list's nil against empty ones.)
func TestTreeFields(t *testing.T) {
	got, spots, at, e := parse.Query("PATTERN SEQ(any first, !(i last), T+ b[]) PARTITION BY sum WHERE next { [min], [count], b[i-1].x = \"i\", [min] } WITHIN 9223372036854775807 RETURN next(strict = count(b[..i-1]), any = NOT -1, any = FALSE)")
	want := api.Query{
		Comps:    []api.Comp{{Type: "any", Var: "first"}, {Neg: true, Type: "i", Var: "last"}, {Plus: true, Type: "T", Var: "b"}},
		Part:     "sum",
		Strategy: api.Next,
		Equiv:    []string{"min", "count", "min"},
		Where:    []api.Expr{bin(api.OEq, ref("b", api.AtPrev, "x"), str("i"))},
		Within:   9223372036854775807,
		Out:      "next",
		Items:    []api.Item{{Name: "strict", Expr: agg(api.FCount, "b", api.AtBefore, "")}, {Name: "any", Expr: un(api.ONot, un(api.ONeg, num(1)))}, {Name: "any", Expr: truth(false)}},
	}
	places := api.Spots{Comps: []int{12, 23, 34}, Part: 55, Equiv: []int{72, 79, 104}, Where: []int{88}, Within: 119, Out: 146, Items: []int{151, 177, 191}}
	if !reflect.DeepEqual(got, want) || !reflect.DeepEqual(spots, places) || at != 0 || e != api.OK {
		t.Errorf("P7.1: %+v, %+v, %d, %d, want %+v, %+v", got, spots, at, e, want, places)
	}
}
