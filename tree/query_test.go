package tree_test

import (
	"fmt"
	"math"
	"math/rand"
	"reflect"
	"strings"
	"testing"

	"refrain/api"
	"refrain/tree"
)

// plain is T a WITHIN 0 RETURN (n = 1).
func plain() api.Query {
	return api.Query{Comps: []api.Comp{{Type: "T", Var: "a"}}, Strategy: api.Any, Items: []api.Item{{Name: "n", Expr: num(1)}}}
}

// whole has all parts.
func whole() api.Query {
	return api.Query{Comps: []api.Comp{{Type: "T", Var: "a"}, {Neg: true, Type: "U", Var: "n"}, {Plus: true, Type: "T", Var: "b"}}, Part: "k", Strategy: api.Next, Equiv: []string{"s", "t"}, Where: []api.Expr{bin(api.OGt, ref("b", api.AtCur, "x"), ax)}, Within: 10, Out: "Up", Items: []api.Item{{Name: "by", Expr: ref("b", api.AtLast, "x")}}}
}

// with is a query that has been changed.
func with(q api.Query, change func(*api.Query)) api.Query {
	change(&q)
	return q
}

// askQuery holds a query without a fault against its text, read by the grammar, and answers the text.
func askQuery(t *testing.T, q api.Query) string {
	t.Helper()
	text, e := tree.Print(q)
	if e != api.OK || tree.Check(q) != api.OK {
		t.Fatalf("P6.2: Print(%+v) = %q, %d, Check = %d", q, text, e, tree.Check(q))
	}
	if back, ok := read(text, (*reader).query); !ok || !reflect.DeepEqual(noNil(back), noNil(q)) {
		t.Fatalf("P6.4: Print(%+v) = %q, which is read as %+v, %v", q, text, back, ok)
	}
	return text
}

// noNil is a query with empty lists for nil ones.
func noNil(q api.Query) api.Query {
	q.Equiv = append([]string{}, q.Equiv...)
	q.Where = append([]api.Expr{}, q.Where...)
	return q
}

// refuse holds a query against the error that it is refused with.
func refuse(t *testing.T, what string, q api.Query, want api.Errno) {
	t.Helper()
	text, e := tree.Print(q)
	if e2 := tree.Check(q); text != "" || e != want || e2 != want {
		t.Errorf("P6.1: %s: Print = %.40q, %d, Check = %d, want %d", what, text, e, e2, want)
	}
}

// TestPrintExamples: P6.2, what the document writes out, and what else it says in words.
func TestPrintExamples(t *testing.T) {
	for _, x := range []struct {
		q    api.Query
		text string
	}{
		{plain(), "PATTERN SEQ(T a) WITHIN 0 RETURN (n = 1)"},
		{whole(), "PATTERN SEQ(T a, !(U n), T+ b[]) PARTITION BY k WHERE next { [s], [t], b[i].x > a.x } WITHIN 10 RETURN Up(by = b[last].x)"},
		{with(plain(), func(q *api.Query) { q.Strategy = api.Strict }), "PATTERN SEQ(T a) WHERE strict WITHIN 0 RETURN (n = 1)"},
		{with(plain(), func(q *api.Query) { q.Strategy = api.Next }), "PATTERN SEQ(T a) WHERE next WITHIN 0 RETURN (n = 1)"},
		{with(plain(), func(q *api.Query) { q.Equiv, q.Where = []string{}, []api.Expr{} }), "PATTERN SEQ(T a) WITHIN 0 RETURN (n = 1)"},
		{with(plain(), func(q *api.Query) { q.Equiv = []string{"s"} }), "PATTERN SEQ(T a) WHERE any { [s] } WITHIN 0 RETURN (n = 1)"},
		{with(plain(), func(q *api.Query) { q.Equiv = []string{"s", "s"} }), "PATTERN SEQ(T a) WHERE any { [s], [s] } WITHIN 0 RETURN (n = 1)"},
		{with(plain(), func(q *api.Query) { q.Where = []api.Expr{yes} }), "PATTERN SEQ(T a) WHERE any { TRUE } WITHIN 0 RETURN (n = 1)"},
		{with(plain(), func(q *api.Query) { q.Where = []api.Expr{yes, bin(api.OOr, yes, no)} }), "PATTERN SEQ(T a) WHERE any { TRUE, TRUE OR FALSE } WITHIN 0 RETURN (n = 1)"},
		{with(plain(), func(q *api.Query) { q.Part = "time" }), "PATTERN SEQ(T a) PARTITION BY time WITHIN 0 RETURN (n = 1)"},
		{with(plain(), func(q *api.Query) { q.Within = api.MaxTime }), "PATTERN SEQ(T a) WITHIN 4611686018427387904 RETURN (n = 1)"},
		{with(plain(), func(q *api.Query) { q.Out = "RETURNS" }), "PATTERN SEQ(T a) WITHIN 0 RETURN RETURNS(n = 1)"},
		{with(plain(), func(q *api.Query) { q.Comps = []api.Comp{{Neg: true, Type: "any", Var: "next"}} }), "PATTERN SEQ(!(any next)) WITHIN 0 RETURN (n = 1)"},
		{with(plain(), func(q *api.Query) { q.Comps = []api.Comp{{Plus: true, Type: "T", Var: "T"}, {Type: "T", Var: "T"}} }), "PATTERN SEQ(T+ T[], T T) WITHIN 0 RETURN (n = 1)"},
		{with(plain(), func(q *api.Query) {
			q.Items = []api.Item{{Name: "n", Expr: bin(api.OEq, num(1), num(2))}, {Name: "n", Expr: str(", ")}}
		}), `PATTERN SEQ(T a) WITHIN 0 RETURN (n = 1 = 2, n = ", ")`},
	} {
		if text := askQuery(t, x.q); text != x.text {
			t.Errorf("P6.2: Print = %q, want %q", text, x.text)
		}
	}
}

// TestPrintEach: P6.2, P6.4: queries of all their parts by turns have texts of their own, which are read as these queries.
func TestPrintEach(t *testing.T) {
	comps := [][]api.Comp{{{Type: "T", Var: "a"}}, {{Plus: true, Type: "T", Var: "a"}}, {{Neg: true, Type: "T", Var: "a"}}, {{Type: "T", Var: "a"}, {Neg: true, Type: "a", Var: "T"}, {Plus: true, Type: "T", Var: "a"}}}
	wheres := [][]api.Expr{nil, {yes}, {yes, no}, {bin(api.OAnd, yes, no)}}
	items := [][]api.Item{{{Name: "n", Expr: num(1)}}, {{Name: "n", Expr: bin(api.OEq, ax, num(1))}, {Name: "m", Expr: ax}}}
	texts := map[string]bool{}
	n := 0
	for _, comp := range comps {
		for _, part := range []string{"", "k"} {
			for strategy := api.Any; strategy <= api.Strict; strategy++ {
				for _, equiv := range [][]string{nil, {"s"}, {"t"}, {"s", "t"}, {"t", "s"}} {
					for _, where := range wheres {
						for _, within := range []int64{0, 1, 10, api.MaxTime} {
							for _, out := range []string{"", "O"} {
								for _, item := range items {
									n++
									texts[askQuery(t, api.Query{Comps: comp, Part: part, Strategy: strategy, Equiv: equiv, Where: where, Within: within, Out: out, Items: item})] = true
								}
							}
						}
					}
				}
			}
		}
	}
	if len(texts) != n {
		t.Errorf("P6.4: %d texts of %d queries", len(texts), n)
	}
}

// TestPrintMany: P6.2, P6.4: queries with more of all parts than check will take, too.
func TestPrintMany(t *testing.T) {
	r := rand.New(rand.NewSource(62))
	name := func() string { return []string{"a", "b", "T", "time", "any", "_"}[r.Intn(6)] }
	for range 3000 {
		q := api.Query{Strategy: 1 + r.Intn(3), Within: r.Int63() >> (1 + r.Intn(62))}
		for range 1 + r.Intn(12) {
			kind := r.Intn(3)
			q.Comps = append(q.Comps, api.Comp{Neg: kind == 1, Plus: kind == 2, Type: name(), Var: name()})
		}
		for range r.Intn(4) {
			q.Equiv = append(q.Equiv, name())
		}
		for range r.Intn(4) {
			q.Where = append(q.Where, somewhat(r, 3))
		}
		for range 1 + r.Intn(20) {
			q.Items = append(q.Items, api.Item{Name: name(), Expr: somewhat(r, 2)})
		}
		if r.Intn(2) == 0 {
			q.Part, q.Out = name(), name()
		}
		askQuery(t, q)
	}
}

// wrong is one thing that is wrong with a query; it may stand beside others. Rank: its place in the order in which faults are looked for.
type wrong struct {
	rank   int
	what   string
	change func(*api.Query)
	e      api.Errno
}

// putCond sets the condition of a number; there are made more if there are too few.
func putCond(q *api.Query, i int, e api.Expr) {
	for len(q.Where) <= i {
		q.Where = append(q.Where, yes)
	}
	q.Where[i] = e
}

// putItem is the item of a number; there are made more if there are too few.
func putItem(q *api.Query, i int) *api.Item {
	for len(q.Items) <= i {
		q.Items = append(q.Items, api.Item{Name: "m", Expr: yes})
	}
	return &q.Items[i]
}

// wrongs are the faults of queries, each by itself. None but those with one name undo one another.
func wrongs() []wrong {
	bad := []string{"9", "a b", "SEQ", "INT", strings.Repeat("n", 33), "[s]", "\xff", "x,y"}
	list := []wrong{
		{1, "no component", func(q *api.Query) { q.Comps = nil }, api.ErrTree},
		{1, "no component, empty", func(q *api.Query) { q.Comps = q.Comps[:0] }, api.ErrTree},
		{2, "Neg and Plus", func(q *api.Query) { q.Comps[0].Neg, q.Comps[0].Plus = true, true }, api.ErrTree},
		{3, "Neg and Plus of the second", func(q *api.Query) {
			q.Comps = append(q.Comps, api.Comp{Neg: true, Plus: true, Type: "T", Var: "a"})
		}, api.ErrTree},
		{2, "no Type", func(q *api.Query) { q.Comps[0].Type = "" }, api.ErrTree},
		{2, "no Var", func(q *api.Query) { q.Comps[0].Var = "" }, api.ErrTree},
		{5, "an empty equivalence", func(q *api.Query) { q.Equiv = []string{"s", ""} }, api.ErrTree},
		{8, "Within -1", func(q *api.Query) { q.Within = -1 }, api.ErrTree},
		{8, "Within least", func(q *api.Query) { q.Within = math.MinInt64 }, api.ErrTree},
		{8, "Within above", func(q *api.Query) { q.Within = api.MaxTime + 1 }, api.ErrTree},
		{8, "Within greatest", func(q *api.Query) { q.Within = math.MaxInt64 }, api.ErrTree},
		{10, "no item", func(q *api.Query) { q.Items = nil }, api.ErrTree},
		{11, "an item without a name", func(q *api.Query) { putItem(q, 0).Name = "" }, api.ErrTree},
	}
	for _, n := range []int{math.MinInt, -1, 0, 4, 5, 257, 258, 259, 1<<32 + 1, math.MaxInt} {
		list = append(list, wrong{4, fmt.Sprint("Strategy ", n), func(q *api.Query) { q.Strategy = n }, api.ErrTree})
	}
	for _, s := range bad {
		list = append(list,
			wrong{2, "Type " + s, func(q *api.Query) { q.Comps[0].Type = s }, api.ErrTree},
			wrong{2, "Var " + s, func(q *api.Query) { q.Comps[0].Var = s }, api.ErrTree},
			wrong{3, "second Var " + s, func(q *api.Query) { q.Comps = append(q.Comps, api.Comp{Plus: true, Type: "T", Var: s}) }, api.ErrTree},
			wrong{3, "second Type " + s, func(q *api.Query) { q.Comps = append(q.Comps, api.Comp{Neg: true, Type: s, Var: "a"}) }, api.ErrTree},
			wrong{4, "Part " + s, func(q *api.Query) { q.Part = s }, api.ErrTree},
			wrong{5, "equivalence " + s, func(q *api.Query) { q.Equiv = []string{"s", s} }, api.ErrTree},
			wrong{5, "first equivalence " + s, func(q *api.Query) { q.Equiv = []string{s, "s"} }, api.ErrTree},
			wrong{9, "Out " + s, func(q *api.Query) { q.Out = s }, api.ErrTree},
			wrong{11, "item " + s, func(q *api.Query) { putItem(q, 0).Name = s }, api.ErrTree},
			wrong{13, "second item " + s, func(q *api.Query) { putItem(q, 1).Name = s }, api.ErrTree})
	}
	for what, x := range faultyExprs() {
		list = append(list,
			wrong{6, "a condition is " + what, func(q *api.Query) { putCond(q, 0, x.e) }, x.f},
			wrong{7, "the third condition is " + what, func(q *api.Query) { putCond(q, 2, x.e) }, x.f},
			wrong{12, "an item is " + what, func(q *api.Query) { putItem(q, 0).Expr = x.e }, x.f},
			wrong{14, "the second item is " + what, func(q *api.Query) { putItem(q, 1).Expr = x.e }, x.f})
	}
	return append(list, wrong{15, "long", func(q *api.Query) {
		for range 10 {
			q.Equiv = append(q.Equiv, "s")
			putCond(q, len(q.Where), str(strings.Repeat("\x00", 256)))
		}
	}, api.ErrLong})
}

// TestCheckEach: P6.1, P6.2: each fault by itself.
func TestCheckEach(t *testing.T) {
	for _, w := range wrongs() {
		for _, q := range []api.Query{plain(), whole()} {
			refuse(t, w.what, with(q, w.change), w.e)
		}
	}
}

// TestCheckFirst: P6.1: of two faults that are looked for at different places the first one counts.
func TestCheckFirst(t *testing.T) {
	list := wrongs()
	undoes := func(a, b wrong) bool { return a.rank == 10 || b.rank == 10 || a.rank == 1 || b.rank == 1 }
	for _, a := range list {
		for _, b := range list {
			if a.rank >= b.rank || undoes(a, b) {
				continue
			}
			refuse(t, a.what+", "+b.what, with(with(plain(), a.change), b.change), a.e)
		}
	}
	// No component, and no item: faults behind them (of parts that they do not take away) do not count, faults ahead of them do.
	for _, w := range list {
		if w.rank > 3 {
			refuse(t, w.what+", no component", with(with(plain(), w.change), func(q *api.Query) { q.Comps = nil }), api.ErrTree)
		}
		if w.rank < 10 {
			refuse(t, w.what+", no item", with(with(plain(), w.change), func(q *api.Query) { q.Items = nil }), w.e)
		}
	}
}

// TestCheckLong: P6.1, P6.2: a text of as many bytes as may be, and of one more; what the bytes stand in does not matter.
func TestCheckLong(t *testing.T) {
	for _, fill := range []func(*api.Query, int){
		func(q *api.Query, n int) { // in a condition
			putCond(q, 0, str(strings.Repeat("\xff", 256)))
			putCond(q, 1, str(strings.Repeat("\xff", 256)))
			putCond(q, 2, str(strings.Repeat("\xff", 256)))
			putCond(q, 3, str(strings.Repeat("\xff", 200)))
			putCond(q, 4, str(strings.Repeat("s", n)))
		},
		func(q *api.Query, n int) { // in an item, the last bytes of all
			q.Items = nil
			for i := range 90 {
				putItem(q, i).Name = strings.Repeat("n", 32)
				q.Items[i].Expr = num(1234567)
			}
			putItem(q, 90).Expr = str(strings.Repeat("s", n))
		},
		func(q *api.Query, n int) { // in the components and in names
			for range 57 {
				q.Comps = append(q.Comps, api.Comp{Plus: true, Type: strings.Repeat("T", 32), Var: strings.Repeat("b", 30)})
			}
			for i := range 6 {
				q.Equiv = append(q.Equiv, strings.Repeat("e", 1+max(0, min(31, n-31*i))))
			}
		},
	} {
		seen := 0
		for n := range 186 {
			q := plain()
			fill(&q, n)
			text, _ := tree.Print(q)
			if size := len(modelText(q)); size <= 4096 {
				askQuery(t, q)
				if len(text) != size {
					t.Errorf("P6.2: Print of a query of %d bytes has %d", size, len(text))
				}
				seen |= 1
			} else {
				refuse(t, fmt.Sprint(size, " bytes"), q, api.ErrLong)
				seen |= 2
			}
		}
		if seen != 3 {
			t.Errorf("the queries are not about as long as may be")
		}
	}
	huge := plain()
	for range 200000 {
		huge.Comps = append(huge.Comps, huge.Comps[0])
		huge.Items = append(huge.Items, huge.Items[0])
	}
	refuse(t, "a huge query", huge, api.ErrLong)
	huge.Items[len(huge.Items)-1].Expr = num(-1)
	refuse(t, "a huge query whose last item is wrong", huge, api.ErrTree)
}

// modelText is the text of a query as it would be without a bound.
func modelText(q api.Query) string {
	var comps, conds, items []string
	for _, c := range q.Comps {
		form := "%s %s"
		if c.Plus {
			form = "%s+ %s[]"
		}
		comps = append(comps, fmt.Sprintf(form, c.Type, c.Var))
	}
	for _, s := range q.Equiv {
		conds = append(conds, "["+s+"]")
	}
	for _, e := range q.Where {
		s, _ := tree.PrintExpr(e)
		conds = append(conds, s)
	}
	for _, x := range q.Items {
		s, _ := tree.PrintExpr(x.Expr)
		items = append(items, x.Name+" = "+s)
	}
	where := ""
	if len(conds) > 0 {
		where = "WHERE any { " + strings.Join(conds, ", ") + " } "
	}
	return fmt.Sprintf("PATTERN SEQ(%s) %sWITHIN %d RETURN (%s)", strings.Join(comps, ", "), where, q.Within, strings.Join(items, ", "))
}
