package parse_test

import (
	"math/rand"
	"reflect"
	"strings"
	"sync"
	"testing"

	"refrain/api"
	"refrain/parse"
	"refrain/token"
	"refrain/tree"
)

const plain = "PATTERN SEQ(A a) WITHIN 5 RETURN (x = a.v)"

var (
	ax      = ref("a", api.AtOne, "x")
	yes, no = truth(true), truth(false)
)

// TestQueryExamples: P7.1, what the document writes out.
func TestQueryExamples(t *testing.T) {
	got, spots, at, e := parse.Query(plain)
	want := api.Query{Comps: []api.Comp{{Type: "A", Var: "a"}}, Strategy: api.Any, Within: 5, Items: []api.Item{{Name: "x", Expr: ref("a", api.AtOne, "v")}}}
	if !reflect.DeepEqual(got, want) || !reflect.DeepEqual(spots, api.Spots{Comps: []int{12}, Within: 24, Items: []int{34}}) || at != 0 || e != api.OK {
		t.Errorf("P7.1: %+v, %+v, %d, %d", got, spots, at, e)
	}
	text := "PATTERN SEQ(A+ b[], !(B n), C c) WHERE next { [id], b[i].v > b[i-1].v } WITHIN 5 RETURN Out(n = count(b), s = sum(b.v))"
	got, spots, at, e = parse.Query(text)
	want = api.Query{
		Comps: []api.Comp{{Plus: true, Type: "A", Var: "b"}, {Neg: true, Type: "B", Var: "n"}, {Type: "C", Var: "c"}}, Strategy: api.Next, Equiv: []string{"id"},
		Where: []api.Expr{bin(api.OGt, ref("b", api.AtCur, "v"), ref("b", api.AtPrev, "v"))}, Within: 5, Out: "Out",
		Items: []api.Item{{Name: "n", Expr: agg(api.FCount, "b", api.AtAll, "")}, {Name: "s", Expr: agg(api.FSum, "b", api.AtAll, "v")}},
	}
	find := func(s string) int { return strings.Index(text, s) }
	places := api.Spots{Comps: []int{12, find("!(B"), find("C c")}, Equiv: []int{find("[id]")}, Where: []int{find("b[i]")}, Within: find("5"), Out: find("Out"), Items: []int{find("n ="), find("s =")}}
	if !reflect.DeepEqual(got, want) || !reflect.DeepEqual(spots, places) || at != 0 || e != api.OK {
		t.Errorf("P7.1: %+v, %+v, %d, %d", got, spots, at, e)
	}
	for _, x := range []struct {
		text string
		at   int
		e    api.Errno
	}{
		{"", 0, api.ErrWant}, {"  -- none\n ", 11, api.ErrWant}, {"PATTERN SEQ()", 12, api.ErrWant}, {plain + " 1", len(plain) + 1, api.ErrWant}, {strings.Replace(plain, "WITHIN", "WHERE any {} WITHIN", 1), 28, api.ErrWant},
		{"PATTERN SEQ(A SEQ) ..", 14, api.ErrWant}, {`PATTERN SEQ(A a "x) ..`, 16, api.ErrOpen}, {plain + plain, len(plain), api.ErrWant}, {"pattern seq(A a) WITHIN 5 RETURN (x = 1)", 0, api.ErrWant},
	} {
		if e, at := askQuery(t, x.text); e != x.e || at != x.at {
			t.Errorf("P7.1: Query(%q): %d, %d, want %d, %d", x.text, at, e, x.at, x.e)
		}
	}
}

// TestExprExamples: P7.2, what the document writes out.
func TestExprExamples(t *testing.T) {
	deep := num(1)
	for range 31 {
		deep = un(api.ONeg, deep)
	}
	for _, x := range []struct {
		text string
		want api.Expr
	}{
		{"1 - 2 - 3 * 4", bin(api.OSub, bin(api.OSub, num(1), num(2)), bin(api.OMul, num(3), num(4)))},
		{"NOT a.x = 1 AND b.y", bin(api.OAnd, un(api.ONot, bin(api.OEq, ax, num(1))), ref("b", api.AtOne, "y"))},
		{"sum.x + sum(b.x)", bin(api.OAdd, ref("sum", api.AtOne, "x"), agg(api.FSum, "b", api.AtAll, "x"))},
		{"b[i - 1].x", ref("b", api.AtPrev, "x")}, {"count(b[..i-1])", agg(api.FCount, "b", api.AtBefore, "")},
		{strings.Repeat("- ", 31) + "1", deep}, {strings.Repeat("(", 40) + "1" + strings.Repeat(")", 40), num(1)}, {strings.Repeat("(", 2047) + "1" + strings.Repeat(")", 2047), num(1)},
		{"a.x OR TRUE OR FALSE", bin(api.OOr, bin(api.OOr, ax, yes), no)}, {"count[i].count", ref("count", api.AtCur, "count")}, {"TRUE", yes}, {"FALSE", no}, {"0", num(0)}, {`"a\x41\n"`, str("aA\n")},
		{"- a.x * 2 + 1 = 3 AND TRUE OR FALSE", bin(api.OOr, bin(api.OAnd, bin(api.OEq, bin(api.OAdd, bin(api.OMul, un(api.ONeg, ax), num(2)), num(1)), num(3)), yes), no)},
	} {
		got, at, e := parse.Expr(x.text)
		if !reflect.DeepEqual(got, x.want) || at != 0 || e != api.OK {
			t.Errorf("P7.2: Expr(%q): %+v, %d, %d, want %+v", x.text, got, at, e, x.want)
		}
	}
	for _, x := range []struct {
		text string
		at   int
		e    api.Errno
	}{
		{"a.x < 1 < 2", 8, api.ErrWant}, {"1 = NOT TRUE", 4, api.ErrWant}, {"avg(b.x)", 3, api.ErrWant}, {"count(b.x)", 7, api.ErrWant}, {"sum(b)", 5, api.ErrWant}, {"b[i-2].x", 4, api.ErrWant}, {"b[j].x", 2, api.ErrWant},
		{`b[i-"1"].x`, 4, api.ErrWant}, {`"b".x`, 3, api.ErrWant}, {"b[..i-1].x", 2, api.ErrWant}, {"sum(b[i].x)", 6, api.ErrWant}, {"count(b[..i])", 11, api.ErrWant}, {"-", 1, api.ErrWant}, {"1 = = 1 &", 8, api.ErrChar}, {"(1 = ", 5, api.ErrWant}, {"1, 2", 1, api.ErrWant}, {"", 0, api.ErrWant},
		{strings.Repeat("- ", 32) + "1", 0, api.ErrDeep}, {strings.Repeat("(", 4096), 4096, api.ErrWant}, {strings.Repeat("NOT(", 1024), 4096, api.ErrWant}, {strings.Repeat("(", 4097), 0, api.ErrLong}, {strings.Repeat("- ", 2047) + "1", 0, api.ErrLong},
	} {
		if e, at := askExpr(t, x.text); e != x.e || at != x.at {
			t.Errorf("P7.2: Expr(%.60q): %d, %d, want %d, %d", x.text, at, e, x.at, x.e)
		}
	}
}

// askFault holds a text against an error and its place.
func askFault(t *testing.T, what, text string, at int, e api.Errno) {
	t.Helper()
	if e == api.OK {
		at = 0
	}
	asked := askExpr
	if strings.HasPrefix(text, "P") {
		asked = askQuery
	}
	if got, gotAt := asked(t, text); got != e || gotAt != at {
		t.Errorf("P7.1: %s: of %.80q: %d, %d, want %d, %d", what, text, gotAt, got, at, e)
	}
}

// nodes is an expression of so many nodes, of no more than 10 within one another.
func nodes(n int) api.Expr {
	switch {
	case n == 1:
		return num(1)
	case n%2 == 0:
		return un(api.ONot, nodes(n-1))
	}
	half := (n - 1) / 2
	return bin(api.OAdd, nodes(half), nodes(n-1-half))
}

// within is an expression of so many within one another: the left ones, or the right ones.
func within(depth int, left bool) api.Expr {
	e := num(1)
	for range depth - 1 {
		if left {
			e = bin(api.OSub, e, ax)
		} else {
			e = bin(api.OMul, ax, e)
		}
	}
	return e
}

type bound struct {
	what string
	text string
	e    api.Errno
}

// bounds are expressions about as great as may be, and what becomes of them.
func bounds() []bound {
	list := []bound{
		{"255 nodes", textOf(nodes(255)), api.OK}, {"256 nodes", textOf(nodes(256)), api.OK}, {"257 nodes", textOf(nodes(257)), api.ErrLong}, {"400 nodes", textOf(nodes(400)), api.ErrLong},
		{"brackets", strings.Repeat("(", 300) + "1" + strings.Repeat(")", 300), api.OK},
		{"32 deep of 2 nodes at the right", "1 = " + strings.Repeat("- ", 30) + "1", api.OK}, {"33 deep of 2 nodes at the right", "1 = " + strings.Repeat("- ", 31) + "1", api.ErrDeep},
	}
	for _, left := range []bool{true, false} {
		list = append(list, bound{"31 deep", textOf(within(31, left)), api.OK}, bound{"32 deep", textOf(within(32, left)), api.OK}, bound{"33 deep", textOf(within(33, left)), api.ErrDeep}, bound{"127 deep", textOf(within(127, left)), api.ErrDeep}, bound{"too deep, and 257 nodes", textOf(within(129, left)), api.ErrLong})
	}
	return list
}

func textOf(e api.Expr) string {
	var s script
	s.expr(e, 0)
	return s.text
}

// TestBounds: P7.1, P7.2: as many nodes and as deep as may be, and more, wherever the expression stands. What is wrong behind it is told only where it may be; what is wrong within it or ahead of it is told first.
func TestBounds(t *testing.T) {
	for _, x := range []struct{ ahead, behind string }{
		{"", ""}, {" ", " "}, {"-- 1\n", "\n--"},
		{"PATTERN SEQ(A a) WHERE any {", "} WITHIN 5 RETURN (x = 1)"},
		{"PATTERN SEQ(A a) WHERE any { [k], 1 = 1,\n", ", 1 } WITHIN 5 RETURN (x = 1)"},
		{"PATTERN SEQ(A a) WITHIN 5 RETURN (x = ", ")"},
		{"PATTERN SEQ(A a) WITHIN 5 RETURN Out(x = 1, y = ", ", z = 1)"},
	} {
		for _, b := range bounds() {
			begin, end := len(x.ahead), len(x.ahead+b.text)
			askFault(t, b.what, x.ahead+b.text+x.behind, begin, b.e)
			for _, bad := range []string{"1", "{", "NOT TRUE", `"s"`, "SEQ", "!", "a"} {
				at, e := end+1, api.ErrWant
				if b.e != api.OK {
					at, e = begin, b.e
				}
				askFault(t, b.what+", then "+bad, x.ahead+b.text+" "+bad+x.behind, at, e)
				askFault(t, b.what+" in a bracket, then "+bad, x.ahead+"("+b.text+" "+bad+")"+x.behind, end+2, api.ErrWant)
			}
			askFault(t, b.what+", then an operation on nothing", x.ahead+"("+b.text+") * ]"+x.behind, end+5, api.ErrWant)
			askFault(t, b.what+", then no token", x.ahead+b.text+x.behind+"\n&", end+len(x.behind)+1, api.ErrChar)
			if strings.HasPrefix(x.ahead, "P") {
				askFault(t, b.what+", behind a fault", "PATTERN 1 "+x.ahead+b.text+x.behind, 8, api.ErrWant)
			}
		}
	}
}

// TestFirstBound: P7.1: of two expressions that are too great the first one counts, whatever is wrong with each.
func TestFirstBound(t *testing.T) {
	for _, a := range bounds() {
		for _, b := range bounds() {
			ahead, between := "PATTERN SEQ(A a) WHERE any { ", " } WITHIN 5 RETURN (x = "
			if a.e != api.OK {
				askFault(t, a.what+", "+b.what, ahead+a.text+between+b.text+")", len(ahead), a.e)
				askFault(t, a.what+", "+b.what, ahead+a.text+", "+b.text+", }", len(ahead), a.e)
			} else {
				askFault(t, a.what+", "+b.what, ahead+a.text+between+b.text+")", len(ahead+a.text+between), b.e)
			}
		}
	}
}

// TestAnyBytes: P0.1, P7.1, P7.2: what token refuses is refused as token does; nothing panics.
func TestAnyBytes(t *testing.T) {
	r := rand.New(rand.NewSource(70))
	pieces := []string{"PATTERN", "SEQ(", "A a", ")", "WITHIN", "5", "RETURN", "(x", "=", "a.v", "\"", "\\", "\xff", "\x00", "--", "\n", " ", "007", "12a", "1", "[", "é", strings.Repeat("w", 33), "{", ";"}
	for range 30000 {
		text := ""
		for range r.Intn(12) {
			text += pieces[r.Intn(len(pieces))]
			if r.Intn(2) == 0 {
				text += " "
			}
		}
		if r.Intn(3) == 0 {
			i := r.Intn(len(plain))
			text = plain[:i] + text + plain[i:]
		}
		_, at, e := token.Scan(text)
		eq, atq := askQuery(t, text)
		ex, atx := askExpr(t, text)
		if e != api.OK && (eq != e || ex != e || atq != at || atx != at) {
			t.Fatalf("P7.1: of %q: %d, %d and %d, %d, want %d, %d", text, atq, eq, atx, ex, at, e)
		}
		if e == api.OK && (eq != api.OK && eq != api.ErrWant || ex != api.OK && ex != api.ErrWant) {
			t.Fatalf("P7.1: of %q: %d, %d and %d, %d", text, atq, eq, atx, ex)
		}
	}
	long := strings.Repeat("PATTERN ", 513)
	if eq, at := askQuery(t, long); eq != api.ErrLong || at != 0 {
		t.Errorf("P7.1: a long text: %d, %d", at, eq)
	}
	if ex, at := askExpr(t, long); ex != api.ErrLong || at != 0 {
		t.Errorf("P7.2: a long text: %d, %d", at, ex)
	}
	if _, _, at, e := parse.Query(plain + strings.Repeat(" ", api.MaxText-len(plain))); e != api.OK || at != 0 {
		t.Errorf("P7.1: a text as long as may be: %d, %d", at, e)
	}
}

// TestBothLong: P7.3: trees that are read from texts without blanks, but whose own texts are too long.
func TestBothLong(t *testing.T) {
	q, _, _, e := parse.Query("PATTERN SEQ(A a)WHERE any{" + strings.Repeat("1=1,", 900) + "TRUE}WITHIN 5 RETURN(x=1)")
	if f := tree.Check(q); e != api.OK || len(q.Where) != 901 || f != api.ErrLong {
		t.Errorf("P7.3: %d, %d conditions, Check %d", e, len(q.Where), f)
	}
	name := strings.Repeat("n", 32)
	group := "(" + name + "." + name + strings.Repeat("+"+name+"."+name, 9) + ")"
	x, _, e := parse.Expr(group + strings.Repeat("*"+group, 5))
	if _, f := tree.PrintExpr(x); e != api.OK || f != api.OK {
		t.Errorf("P7.3: %d, PrintExpr %d", e, f)
	}
	x, _, e = parse.Expr(group + strings.Repeat("*"+group, 5) + "*" + name + "." + name)
	if _, f := tree.PrintExpr(x); e != api.OK || f != api.ErrLong {
		t.Errorf("P7.3: %d, PrintExpr %d", e, f)
	}
}

const full = "PATTERN SEQ(A+ b[], !(B n), C c) PARTITION BY k WHERE next { [id], [ab], b[i].v > b[i-1].v, c.x = -1 OR NOT c.y, [z] } WITHIN 5 RETURN Out(n = count(b), s = sum(b.v) * 2 + 1)"

// spoil overwrites an expression's lists, their spare room too.
func spoil(e *api.Expr) {
	for i := range e.Kids {
		spoil(&e.Kids[i])
	}
	clear(e.Kids[:cap(e.Kids)])
}

// roomy fills the spare room of a list.
func roomy[T any](list []T, x T) {
	spare := list[len(list):cap(list)]
	for i := range spare {
		spare[i] = x
	}
}

func roomyExpr(e api.Expr) {
	roomy(e.Kids, num(9))
	for _, k := range e.Kids {
		roomyExpr(k)
	}
}

// TestMemory: P7.4, P0.3: answers are new memory; no two lists of one share any.
func TestMemory(t *testing.T) {
	want, places, _, _ := parse.Query(full)
	for range 2 {
		got, spots, _, e := parse.Query(full)
		roomy(got.Comps, api.Comp{Type: "spare"})
		roomy(got.Equiv, "spare")
		roomy(got.Where, num(9))
		roomy(got.Items, api.Item{Name: "spare"})
		for _, list := range [][]int{spots.Comps, spots.Equiv, spots.Where, spots.Items} {
			roomy(list, -1)
		}
		for i := range got.Where {
			roomyExpr(got.Where[i])
		}
		for i := range got.Items {
			roomyExpr(got.Items[i].Expr)
		}
		if !reflect.DeepEqual(got, want) || !reflect.DeepEqual(spots, places) || e != api.OK {
			t.Fatalf("P7.4: %+v, %+v, want %+v, %+v", got, spots, want, places)
		}
		for i := range got.Where {
			spoil(&got.Where[i])
		}
		clear(got.Comps)
		clear(got.Equiv)
		clear(got.Items)
		clear(spots.Comps)
		clear(spots.Equiv)
		clear(spots.Where)
		clear(spots.Items)
	}
	x, _, _ := parse.Expr("a.x + 1 * count(b)")
	y, _, _ := parse.Expr("a.x + 1 * count(b)")
	spoil(&x)
	if s, e := tree.PrintExpr(y); s != "a.x + 1 * count(b)" || e != api.OK {
		t.Errorf("P7.4: %q, %d", s, e)
	}
}

// TestAlike: P7.4, P0.5: the same calls answer the same, whatever is asked beside them.
func TestAlike(t *testing.T) {
	r := rand.New(rand.NewSource(74))
	var texts []string
	for range 60 {
		s := script{r: r}
		s.query(someQuery(r, 3), true)
		texts = append(texts, s.text, s.text[:r.Intn(len(s.text))])
	}
	play := func() []any {
		var out []any
		for _, text := range texts {
			q, spots, at, e := parse.Query(text)
			x, at2, e2 := parse.Expr(text[len(text)/2:])
			out = append(out, q, spots, at, e, x, at2, e2)
		}
		return out
	}
	want := play()
	var wait sync.WaitGroup
	for range 8 {
		wait.Go(func() {
			for range 3 {
				if got := play(); !reflect.DeepEqual(got, want) {
					t.Error("the same calls answered otherwise")
					return
				}
			}
		})
	}
	wait.Wait()
}
