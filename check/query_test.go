package check_test

import (
	"math"
	"slices"
	"strconv"
	"testing"

	"refrain/api"
	"refrain/check"
	"refrain/tree"
)

func askQuery(t *testing.T, q api.Query, want api.Fault) {
	t.Helper()
	if f := check.Query(q, types...); f != want {
		text, _ := tree.Print(q)
		t.Errorf("P8.4: Query(%.300q) = %+v, want %+v", text, f, want)
	}
}

// TestQueryExamples: P8.4, what the document writes out.
func TestQueryExamples(t *testing.T) {
	given := []api.Type{{Name: "Trade", Attrs: []api.Attr{{Name: "sym", Kind: api.KStr}, {Name: "price", Kind: api.KInt}, {Name: "live", Kind: api.KBool}}}, {Name: "Note", Attrs: []api.Attr{{Name: "sym", Kind: api.KStr}, {Name: "text", Kind: api.KStr}}}, pair}
	const many, neg = "SEQ(Trade+ a[], Trade+ b[], Trade c) WHERE any { ", "SEQ(Trade a, !(Note n), Trade c) WHERE any { "
	for text, want := range map[string]api.Fault{
		"SEQ(Trade a, Trade+ b[], !(Note n), Trade c) WHERE any { [sym], b[i].price > a.price, n.sym = a.sym, c.price > b[last].price } WITHIN 5 RETURN (x = count(b))": {},
		"SEQ(Trade a, Nope b) WITHIN 5 RETURN (x = 1)":                                   {Err: api.ErrType, Part: api.InComps, Num: 1},
		"SEQ(Trade a, Trade a) WITHIN 5 RETURN (x = 1)":                                  {Err: api.ErrVar, Part: api.InComps, Num: 1},
		"SEQ(!(Note n), Trade a) WITHIN 5 RETURN (x = 1)":                                {Err: api.ErrNeg, Part: api.InComps, Num: 0},
		"SEQ(Trade a, !(Note n)) WITHIN 5 RETURN (x = 1)":                                {Err: api.ErrNeg, Part: api.InComps, Num: 1},
		"SEQ(Trade a, Note n) PARTITION BY price WITHIN 5 RETURN (x = 1)":                {Err: api.ErrAttr, Part: api.InPart},
		"SEQ(Trade a, Note n) PARTITION BY time WITHIN 5 RETURN (x = 1)":                 {Err: api.ErrAttr, Part: api.InPart},
		"SEQ(Trade a, Note n) WHERE any { [sym], [sym] } WITHIN 5 RETURN (x = 1)":        {Err: api.ErrEquiv, Part: api.InEquiv, Num: 1},
		"SEQ(Trade a) WHERE any { a.live, a.price } WITHIN 5 RETURN (x = 1)":             {Err: api.ErrBool, Part: api.InWhere, Num: 1},
		"SEQ(Trade a) WHERE any { a.price + a.sym > 1 } WITHIN 5 RETURN (x = 1)":         {Err: api.ErrKind, Part: api.InWhere},
		"SEQ(Trade a) WHERE any { a[i].price > 1 } WITHIN 5 RETURN (x = 1)":              {Err: api.ErrUse, Part: api.InWhere},
		"SEQ(Trade a) WHERE any { z.price > 1 } WITHIN 5 RETURN (x = 1)":                 {Err: api.ErrVar, Part: api.InWhere},
		"SEQ(Trade a) WHERE any { a.cost > 1 } WITHIN 5 RETURN (x = 1)":                  {Err: api.ErrAttr, Part: api.InWhere},
		many + "a[i].price = b[i].price } WITHIN 5 RETURN (x = 1)":                       {Err: api.ErrMix, Part: api.InWhere},
		many + "b[i].price > a[last].price } WITHIN 5 RETURN (x = 1)":                    {},
		many + "a[i].price > c.price } WITHIN 5 RETURN (x = 1)":                          {Err: api.ErrMix, Part: api.InWhere},
		many + "a[i].price > a[last].price } WITHIN 5 RETURN (x = 1)":                    {Err: api.ErrMix, Part: api.InWhere},
		many + "a[i].price > a[first].price } WITHIN 5 RETURN (x = 1)":                   {},
		neg + "n.sym = c.sym } WITHIN 5 RETURN (x = 1)":                                  {Err: api.ErrMix, Part: api.InWhere},
		neg + "n.sym = a.sym } WITHIN 5 RETURN (x = 1)":                                  {},
		"SEQ(Trade a) WITHIN 5 RETURN Nope(x = 1)":                                       {Err: api.ErrType, Part: api.InOut},
		"SEQ(Trade a) WITHIN 5 RETURN (x = 1, x = 2)":                                    {Err: api.ErrDup, Part: api.InItems, Num: 1},
		"SEQ(Trade a, !(Note n), Trade c) WITHIN 5 RETURN (x = n.sym)":                   {Err: api.ErrMix, Part: api.InItems},
		"SEQ(Trade a) WITHIN 5 RETURN Pair(a = a.price, b = a.sym)":                      {},
		"SEQ(Trade a) WITHIN 5 RETURN Pair(a = a.price)":                                 {Err: api.ErrOut, Part: api.InItems, Num: 1},
		"SEQ(Trade a) WITHIN 5 RETURN Pair(a = a.sym, b = a.sym)":                        {Err: api.ErrOut, Part: api.InItems, Num: 0},
		"SEQ(Trade a) WITHIN 5 RETURN Pair(a = 1, b = \"\", c = 1)":                      {Err: api.ErrOut, Part: api.InItems, Num: 2},
		"SEQ(Trade a) WITHIN 4611686018427387904 RETURN (x = 1)":                         {},
		"SEQ(Trade a) WITHIN 4611686018427387905 RETURN (x = 1)":                         {Err: api.ErrSpan, Part: api.InWithin},
		"SEQ(Trade a, Note b) PARTITION BY sym WHERE strict WITHIN 0 RETURN (a = a.sym)": {},
	} {
		if f := check.Query(query(t, "PATTERN "+text), given...); f != want {
			t.Errorf("P8.4: Query(%q) = %+v, want %+v", text, f, want)
		}
	}
	q := pattern(t, "Trade a")
	q.Comps[0].Var = "SEQ"
	askQuery(t, q, api.Fault{Err: api.ErrVar, Part: api.InComps})
	q.Comps = nil
	askQuery(t, q, api.Fault{Err: api.ErrLong, Part: api.InComps})
	q = pattern(t, "Trade a")
	q.Within = -1
	askQuery(t, q, api.Fault{Err: api.ErrSpan, Part: api.InWithin})
	q = pattern(t, "Trade a")
	q.Items[0].Name = "INT"
	askQuery(t, q, api.Fault{Err: api.ErrName, Part: api.InItems})
	q.Items = nil
	askQuery(t, q, api.Fault{Err: api.ErrLong, Part: api.InItems})
	askQuery(t, api.Query{}, api.Fault{Err: api.ErrLong, Part: api.InComps})
}

const wholeText = "PATTERN SEQ(Trade a, Trade+ b[], !(Note n), Trade c) PARTITION BY sym WHERE next { [sym], [price], [live], b[i].price > a.price, n.sym = a.sym, c.live } WITHIN 5 RETURN Pair(a = count(b), b = c.sym)"

// change puts a fault into a whole query.
type change struct {
	is    string
	apply func(q *api.Query)
	want  api.Fault
}

// compChanges: those of the first part, in the order in which they count.
func compChanges() []change {
	list := []change{
		{"no components", func(q *api.Query) { q.Comps = nil }, api.Fault{Err: api.ErrLong, Part: api.InComps}},
		{"9 components", func(q *api.Query) { q.Comps = append(slices.Repeat(q.Comps[:1], 8), api.Comp{}) }, api.Fault{Err: api.ErrLong, Part: api.InComps, Num: 8}},
	}
	for i := range 4 {
		for _, x := range []struct {
			is    string
			apply func(c *api.Comp)
			err   api.Errno
		}{
			{"both signs", func(c *api.Comp) { c.Neg, c.Plus = true, true }, api.ErrTree},
			{"both signs, a foreign type, no name", func(c *api.Comp) { *c = api.Comp{Neg: true, Plus: true} }, api.ErrTree},
			{"a foreign type", func(c *api.Comp) { c.Type = "trade" }, api.ErrType},
			{"no type, no name", func(c *api.Comp) { c.Type, c.Var = "", "" }, api.ErrType},
			{"no name", func(c *api.Comp) { c.Var = "" }, api.ErrVar},
			{"a word", func(c *api.Comp) { c.Var = "TRUE" }, api.ErrVar},
			{"a letter too many", func(c *api.Comp) { c.Var = "a23456789012345678901234567890123" }, api.ErrVar},
		} {
			list = append(list, change{x.is, func(q *api.Query) { x.apply(&q.Comps[i]) }, api.Fault{Err: x.err, Part: api.InComps, Num: i}})
		}
		for j := range i {
			list = append(list, change{"a variable twice", func(q *api.Query) { q.Comps[i].Var = q.Comps[j].Var }, api.Fault{Err: api.ErrVar, Part: api.InComps, Num: i}})
		}
	}
	return append(list,
		change{"all negated", func(q *api.Query) {
			for i := range q.Comps {
				q.Comps[i].Neg, q.Comps[i].Plus = true, false
			}
		}, api.Fault{Err: api.ErrNeg, Part: api.InComps}},
		change{"the first one negated", func(q *api.Query) { q.Comps[0].Neg = true }, api.Fault{Err: api.ErrNeg, Part: api.InComps}},
		change{"the last one negated", func(q *api.Query) { q.Comps[3].Neg = true }, api.Fault{Err: api.ErrNeg, Part: api.InComps, Num: 3}},
	)
}

// alikeChanges are those of an attribute that all components should have alike.
func alikeChanges(is string, part, num int, put func(q *api.Query, name string)) []change {
	list := []change{}
	for name, err := range map[string]api.Errno{"none": api.ErrAttr, "time": api.ErrAttr, "text": api.ErrAttr, "SEQ": api.ErrAttr, "mixed": api.ErrKind, "odd": api.ErrKind, "late": api.ErrKind} {
		list = append(list, change{is + name, func(q *api.Query) { put(q, name) }, api.Fault{Err: err, Part: part, Num: num}})
	}
	return list
}

// headChanges: those that stand behind the components and ahead of the conditions.
func headChanges() []change {
	list := alikeChanges("partitioned by ", api.InPart, 0, func(q *api.Query, name string) { q.Part = name })
	for i := range 3 {
		list = append(list, alikeChanges("the equivalence ", api.InEquiv, i, func(q *api.Query, name string) { q.Equiv[i] = name })...)
		list = append(list, change{"the equivalence of nothing", func(q *api.Query) { q.Equiv[i] = "" }, api.Fault{Err: api.ErrAttr, Part: api.InEquiv, Num: i}})
		for j := range i {
			list = append(list, change{"an equivalence twice", func(q *api.Query) { q.Equiv[i] = q.Equiv[j] }, api.Fault{Err: api.ErrEquiv, Part: api.InEquiv, Num: i}})
		}
	}
	for _, n := range []int{0, -1, 4, 257, math.MinInt, 1<<32 + 1} {
		list = append(list, change{"a strategy that is none", func(q *api.Query) { q.Strategy = n }, api.Fault{Err: api.ErrTree, Part: api.InWhere}})
	}
	return list
}

// faultyExprs are those of the whole query's components that may be neither a condition nor an item.
var faultyExprs = []operand{
	{"z.price = 1", 0, api.ErrVar}, {"b.price = 1", 0, api.ErrUse}, {"a[last].none = 1", 0, api.ErrUse}, {"a.text = 1", 0, api.ErrAttr}, {"a.odd = 1", 0, api.ErrKind}, {"NOT a.price", 0, api.ErrKind}, {"sum(b.live) = 1", 0, api.ErrKind}, {"n.sym = c.sym", 0, api.ErrMix}, {"b[i].price = c.price", 0, api.ErrMix},
}

// condChanges: those of the conditions.
func condChanges(t *testing.T) []change {
	list := []change{}
	for i := range 3 {
		where := func(is string, e api.Expr, err api.Errno) {
			list = append(list, change{"the condition " + is, func(q *api.Query) { q.Where[i] = e }, api.Fault{Err: err, Part: api.InWhere, Num: i}})
		}
		where("zero", api.Expr{}, api.ErrTree)
		where("-1", num(-1), api.ErrTree)
		for _, x := range faultyExprs {
			where(x.text, expr(t, x.text), x.err)
		}
		for _, text := range []string{"1", `""`, "a.sym", "b[i-1].price", "n.price + 1", "count(b)"} {
			where(text, expr(t, text), api.ErrBool)
		}
	}
	return append(list, change{"33 conditions", func(q *api.Query) { q.Where = append(slices.Repeat(q.Where[2:], 29), api.Expr{}) }, api.Fault{Err: api.ErrLong, Part: api.InWhere, Num: 29}})
}

// tailChanges: those behind the conditions.
func tailChanges(t *testing.T) []change {
	list := []change{}
	for _, n := range []int64{-1, math.MinInt64, api.MaxTime + 1, math.MaxInt64} {
		list = append(list, change{"a span that may not be", func(q *api.Query) { q.Within = n }, api.Fault{Err: api.ErrSpan, Part: api.InWithin}})
	}
	for _, s := range []string{"Nope", "pair", "SEQ", "time"} {
		list = append(list, change{"the output " + s, func(q *api.Query) { q.Out = s }, api.Fault{Err: api.ErrType, Part: api.InOut}})
	}
	list = append(list,
		change{"no items", func(q *api.Query) { q.Items = nil }, api.Fault{Err: api.ErrLong, Part: api.InItems}},
		change{"17 items", func(q *api.Query) { q.Items = make([]api.Item, 17) }, api.Fault{Err: api.ErrLong, Part: api.InItems, Num: 16}},
	)
	for i := range 2 {
		item := func(is string, err api.Errno, apply func(x *api.Item)) {
			list = append(list, change{is, func(q *api.Query) { apply(&q.Items[i]) }, api.Fault{Err: err, Part: api.InItems, Num: i}})
		}
		item("an item without a name", api.ErrName, func(x *api.Item) { *x = api.Item{} })
		item("an item of a word", api.ErrName, func(x *api.Item) { x.Name = "BY" })
		item("an item that is no tree", api.ErrTree, func(x *api.Item) { x.Expr = num(-1) })
		item("an item that is no tree, under another name", api.ErrTree, func(x *api.Item) { *x = api.Item{Name: "c"} })
		for _, x := range slices.Concat(faultyExprs, []operand{{"b[i].price", 0, api.ErrMix}, {"sum(b[..i-1].price)", 0, api.ErrMix}, {"n.time", 0, api.ErrMix}}) {
			e := expr(t, x.text)
			item("the item "+x.text, x.err, func(x *api.Item) { *x = api.Item{Name: "c", Expr: e} })
		}
		item("an item of another name", api.ErrOut, func(x *api.Item) { x.Name = "A" })
		item("an item of another kind", api.ErrOut, func(x *api.Item) { x.Expr = un(api.ONot, lit(api.Value{Kind: api.KBool})) })
	}
	return append(list,
		change{"an item twice", func(q *api.Query) { q.Items[1].Name = "a" }, api.Fault{Err: api.ErrDup, Part: api.InItems, Num: 1}},
		change{"an item twice that is no tree", func(q *api.Query) { q.Items[1] = api.Item{Name: "a"} }, api.Fault{Err: api.ErrDup, Part: api.InItems, Num: 1}},
		change{"an item too few", func(q *api.Query) { q.Items = q.Items[:1] }, api.Fault{Err: api.ErrOut, Part: api.InItems, Num: 1}},
		change{"an item too many", func(q *api.Query) { q.Items = append(q.Items, api.Item{Name: "c", Expr: num(1)}) }, api.Fault{Err: api.ErrOut, Part: api.InItems, Num: 2}},
		change{"a third item twice", func(q *api.Query) { q.Items = append(q.Items, q.Items[0]) }, api.Fault{Err: api.ErrDup, Part: api.InItems, Num: 2}},
	)
}

// TestChanges: P8.4: each fault by itself, and each two of them that do not stand at one place: the first one.
func TestChanges(t *testing.T) {
	all := slices.Concat(compChanges(), headChanges(), condChanges(t), tailChanges(t))
	askQuery(t, query(t, wholeText), api.Fault{})
	for i, x := range all {
		q := query(t, wholeText)
		x.apply(&q)
		if f := check.Query(q, types...); f != x.want {
			t.Errorf("P8.4: %s: %+v, want %+v", x.is, f, x.want)
		}
		for _, y := range all[i+1:] {
			if x.want.Part == y.want.Part && x.want.Num == y.want.Num {
				continue
			}
			q := query(t, wholeText)
			// The later one first: what the earlier one puts in its place stays.
			y.apply(&q)
			x.apply(&q)
			if f := check.Query(q, types...); f != x.want {
				t.Errorf("P8.4: %s, and %s: %+v, want %+v", x.is, y.is, f, x.want)
			}
		}
	}
}

// TestBounds: P8.4: as many of all as may be, and one more.
func TestBounds(t *testing.T) {
	wide := api.Type{Name: "W"}
	for i := range 40 {
		wide.Attrs = append(wide.Attrs, api.Attr{Name: "k" + strconv.Itoa(i), Kind: api.KInt})
	}
	q := api.Query{Strategy: api.Strict, Within: api.MaxTime, Out: "W"}
	for i := range 8 {
		q.Comps = append(q.Comps, api.Comp{Type: "W", Var: "v" + strconv.Itoa(i), Plus: i == 3, Neg: i == 5})
	}
	for i := range 40 {
		q.Items = append(q.Items, api.Item{Name: "k" + strconv.Itoa(i), Expr: num(1)})
		q.Equiv = append(q.Equiv, "k"+strconv.Itoa(i))
		q.Where = append(q.Where, expr(t, "v7.k0 = 1"))
	}
	short := wide
	short.Attrs = wide.Attrs[:16]
	for _, equivs := range []int{0, 1, 31, 32, 33, 40} {
		for _, conds := range []int{0, 1, 31, 32, 33} {
			for _, items := range []int{15, 16, 17} {
				want := api.Fault{}
				switch {
				case equivs > 32:
					want = api.Fault{Err: api.ErrLong, Part: api.InEquiv, Num: 32}
				case equivs+conds > 32:
					want = api.Fault{Err: api.ErrLong, Part: api.InWhere, Num: 32 - equivs}
				case items > 16:
					want = api.Fault{Err: api.ErrLong, Part: api.InItems, Num: 16}
				}
				x := q
				x.Equiv, x.Where, x.Items, x.Out = q.Equiv[:equivs], q.Where[:conds], q.Items[:items], ""
				if f := check.Query(x, wide); f != want {
					t.Errorf("P8.4: %d equivalences, %d conditions, %d items: %+v, want %+v", equivs, conds, items, f, want)
				}
			}
		}
	}
	q.Equiv, q.Where, q.Items = nil, nil, q.Items[:16]
	if f := check.Query(q, wide); f != (api.Fault{Err: api.ErrOut, Part: api.InItems, Num: 16}) {
		t.Errorf("P8.4: 16 items of 40: %+v", f)
	}
	q.Comps[0].Type = "V"
	if f := check.Query(q, short, api.Type{Name: "V"}); f != (api.Fault{}) {
		t.Errorf("P8.4: 16 items of 16: %+v", f)
	}
}

// TestOddTypes: P8.4: types that schema would refuse: the first one of a name, the first attribute of a name, and nothing else of them.
func TestOddTypes(t *testing.T) {
	odd := []api.Type{
		{Name: "", Attrs: []api.Attr{{Name: "", Kind: api.KInt}}},
		{Name: "T", Attrs: []api.Attr{{Name: "k", Kind: api.KStr}, {Name: "k", Kind: api.KInt}, {Name: "SEQ", Kind: api.KInt}, {Name: "", Kind: api.KInt}, {Name: "time", Kind: api.KInt}}},
		{Name: "T", Attrs: []api.Attr{{Name: "k", Kind: api.KInt}, {Name: "m", Kind: api.KInt}}},
		{Name: "O", Attrs: []api.Attr{{Name: "x", Kind: api.KInt}, {Name: "x", Kind: api.KInt}}},
		{Name: "P", Attrs: []api.Attr{{Name: "x", Kind: 4}}},
		{Name: "P", Attrs: []api.Attr{{Name: "x", Kind: api.KInt}}},
		{Name: "none"},
	}
	good := api.Query{Comps: []api.Comp{{Type: "T", Var: "v"}}, Strategy: api.Any, Items: []api.Item{{Name: "x", Expr: num(1)}}}
	for _, x := range []struct {
		is    string
		apply func(q *api.Query)
		want  api.Fault
	}{
		{"nothing odd", func(q *api.Query) {}, api.Fault{}},
		{"a type of no name", func(q *api.Query) { q.Comps[0].Type = "" }, api.Fault{}},
		{"an equivalence of no name", func(q *api.Query) { q.Comps[0].Type = ""; q.Equiv = []string{""} }, api.Fault{}},
		{"no name of two kinds of types", func(q *api.Query) {
			q.Comps = append(q.Comps, api.Comp{Type: "", Var: "w"})
			q.Equiv = []string{""}
		}, api.Fault{}},
		{"an equivalence of a word", func(q *api.Query) { q.Equiv = []string{"SEQ"} }, api.Fault{}},
		{"partitioned by the first k, a string", func(q *api.Query) { q.Part = "k" }, api.Fault{}},
		{"the second T's attribute", func(q *api.Query) { q.Part = "m" }, api.Fault{Err: api.ErrAttr, Part: api.InPart}},
		{"time, which is declared", func(q *api.Query) { q.Part = "time" }, api.Fault{Err: api.ErrAttr, Part: api.InPart}},
		{"time, which is declared", func(q *api.Query) { q.Equiv = []string{"k", "time"} }, api.Fault{Err: api.ErrAttr, Part: api.InEquiv, Num: 1}},
		{"an output with an attribute of no kind", func(q *api.Query) { q.Out = "P" }, api.Fault{Err: api.ErrOut, Part: api.InItems}},
		{"an output with an attribute twice", func(q *api.Query) { q.Out = "O" }, api.Fault{Err: api.ErrOut, Part: api.InItems, Num: 1}},
		{"an output without attributes", func(q *api.Query) { q.Out = "none" }, api.Fault{Err: api.ErrOut, Part: api.InItems}},
		{"a condition on the first k", func(q *api.Query) { q.Where = []api.Expr{expr(t, `v.k = ""`)} }, api.Fault{}},
		{"a condition on the second k", func(q *api.Query) { q.Where = []api.Expr{expr(t, "v.k = 1")} }, api.Fault{Err: api.ErrKind, Part: api.InWhere}},
	} {
		q := good
		q.Comps = slices.Clone(good.Comps)
		x.apply(&q)
		if f := check.Query(q, odd...); f != x.want {
			t.Errorf("P8.4: %s: %+v, want %+v", x.is, f, x.want)
		}
	}
	if f := check.Query(good); f != (api.Fault{Err: api.ErrType, Part: api.InComps}) {
		t.Errorf("P8.4: without types: %+v", f)
	}
}
