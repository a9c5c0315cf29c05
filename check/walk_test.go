package check_test

import (
	"math"
	"math/rand"
	"slices"
	"strings"
	"testing"

	"refrain/api"
	"refrain/check"
	"refrain/parse"
	"refrain/tree"
)

// Types with attributes that are alike, and others; some that schema would refuse.
var (
	trade = api.Type{Name: "Trade", Attrs: []api.Attr{{Name: "sym", Kind: api.KStr}, {Name: "price", Kind: api.KInt}, {Name: "live", Kind: api.KBool}, {Name: "mixed", Kind: api.KInt}, {Name: "odd", Kind: 4}, {Name: "late", Kind: api.KInt}}}
	note  = api.Type{Name: "Note", Attrs: []api.Attr{{Name: "text", Kind: api.KStr}, {Name: "sym", Kind: api.KStr}, {Name: "mixed", Kind: api.KStr}, {Name: "price", Kind: api.KInt}, {Name: "live", Kind: api.KBool}, {Name: "odd", Kind: 4}, {Name: "late", Kind: 0}}}
	pair  = api.Type{Name: "Pair", Attrs: []api.Attr{{Name: "a", Kind: api.KInt}, {Name: "b", Kind: api.KStr}}}
	types = []api.Type{trade, note, pair}
)

func lit(v api.Value) api.Expr { return api.Expr{Kind: api.ELit, Val: v} }
func num(n int64) api.Expr     { return lit(api.Value{Kind: api.KInt, Int: n}) }

func un(op int, x api.Expr) api.Expr {
	return api.Expr{Kind: api.EUn, Op: op, Kids: []api.Expr{x}}
}

func bin(op int, x, y api.Expr) api.Expr {
	return api.Expr{Kind: api.EBin, Op: op, Kids: []api.Expr{x, y}}
}

func expr(t *testing.T, text string) api.Expr {
	t.Helper()
	e, at, err := parse.Expr(text)
	if err != api.OK {
		t.Fatalf("no expression: %q: %d, %d", text, at, err)
	}
	return e
}

func query(t *testing.T, text string) api.Query {
	t.Helper()
	q, _, at, err := parse.Query(text)
	if err != api.OK {
		t.Fatalf("no query: %q: %d, %d", text, at, err)
	}
	return q
}

// pattern is a query of these components that asks nothing.
func pattern(t *testing.T, comps string) api.Query {
	t.Helper()
	return query(t, "PATTERN SEQ("+comps+") WITHIN 5 RETURN (x = 1)")
}

func askKind(t *testing.T, e api.Expr, q api.Query, kind int, err api.Errno) {
	t.Helper()
	if k, f := check.Kind(e, q, types...); k != kind || f != err {
		text, _ := tree.PrintExpr(e)
		t.Errorf("P8.2: Kind(%.300q) = %d, %d, want %d, %d", text, k, f, kind, err)
	}
}

// TestKindExamples: P8.2, what the document writes out.
func TestKindExamples(t *testing.T) {
	q := pattern(t, "Trade a, Trade+ b[], !(Note n), Trade c")
	for _, x := range []struct {
		text string
		kind int
		err  api.Errno
	}{
		{"count(b) > 1", api.KBool, api.OK}, {"b.price", 0, api.ErrUse}, {"b[i].price * 2", api.KInt, api.OK},
		{"count(b) = 1 AND NOT b[last].live OR c.sym < n.text", api.KBool, api.OK},
	} {
		askKind(t, expr(t, x.text), q, x.kind, x.err)
	}
	long := expr(t, `a.sym = "`+strings.Repeat("s", api.MaxStr)+`"`)
	all, row := long, long
	for range 5 {
		all = bin(api.OAnd, all, all)
	}
	if n, _ := tree.Size(all); n != 127 {
		t.Errorf("%d nodes", n)
	}
	askKind(t, all, q, api.KBool, api.OK)
	for range 30 {
		row = bin(api.OAnd, row, long)
	}
	askKind(t, row, q, api.KBool, api.OK)
	askKind(t, bin(api.OAnd, row, long), q, 0, api.ErrTree) // 33 deep
}

// operand is an expression with what it is worth.
type operand struct {
	text string
	kind int
	err  api.Errno
}

var operands = []operand{
	{"1", api.KInt, 0}, {`"s"`, api.KStr, 0}, {"FALSE", api.KBool, 0},
	{"a.price", api.KInt, 0}, {"b[i].sym", api.KStr, 0}, {"n.live", api.KBool, 0}, {"sum(b.price)", api.KInt, 0}, {"n.time", api.KInt, 0},
	{"z.price", 0, api.ErrVar}, {"a[i].price", 0, api.ErrUse}, {"a.none", 0, api.ErrAttr}, {"max(b.sym)", 0, api.ErrKind},
}

// rules says of each operation which kinds it wants, each with its own kind behind it.
var rules = map[int]string{
	api.ONeg: "1 1", api.ONot: "3 3",
	api.OAdd: "11 1", api.OSub: "11 1", api.OMul: "11 1",
	api.OEq: "11 3 22 3 33 3", api.ONe: "11 3 22 3 33 3",
	api.OLt: "11 3 22 3", api.OLe: "11 3 22 3", api.OGt: "11 3 22 3", api.OGe: "11 3 22 3",
	api.OAnd: "33 3", api.OOr: "33 3",
}

// ruled is what an operation is worth whose operands have these kinds.
func ruled(op int, kinds ...int) (int, api.Errno) {
	s := ""
	for _, k := range kinds {
		s += string(rune('0' + k))
	}
	list := strings.Fields(rules[op])
	for i := 0; i < len(list); i += 2 {
		if list[i] == s {
			return int(list[i+1][0] - '0'), api.OK
		}
	}
	return 0, api.ErrKind
}

// TestOperations: P8.1: each operation on all operands, by itself and around another one: the first fault from the left, operands ahead of their operation.
func TestOperations(t *testing.T) {
	q := pattern(t, "Trade a, Trade+ b[], !(Note n), Trade c")
	for _, x := range operands {
		left := expr(t, x.text)
		askKind(t, left, q, x.kind, x.err)
		for op := api.ONeg; op <= api.ONot; op++ {
			kind, err := ruled(op, x.kind)
			if x.err != api.OK {
				kind, err = 0, x.err
			}
			askKind(t, un(op, left), q, kind, err)
		}
		for _, y := range operands {
			right := expr(t, y.text)
			for op := api.OAdd; op <= api.OOr; op++ {
				kind, err := ruled(op, x.kind, y.kind)
				for _, operand := range []operand{y, x} {
					if operand.err != api.OK {
						kind, err = 0, operand.err
					}
				}
				askKind(t, bin(op, left, right), q, kind, err)
				if err != api.OK {
					askKind(t, bin(api.OEq, bin(op, left, right), expr(t, "z.z")), q, 0, err)
					askKind(t, un(api.ONot, bin(api.OAnd, expr(t, "TRUE"), bin(op, left, right))), q, 0, err)
				}
			}
		}
	}
}

// How a component may be spoken of, and which attributes there are: "" is none, "count" stands for a count.
var (
	single = []string{"V.X"}
	many   = []string{"V[i].X", "V[i-1].X", "V[first].X", "V[last].X"}
	inMany = []string{"sum(V.X)", "sum(V[..i-1].X)", "min(V.X)", "min(V[..i-1].X)", "max(V.X)", "max(V[..i-1].X)", "count(V)", "count(V[..i-1])"}
	attrs  = map[string]int{"sym": api.KStr, "price": api.KInt, "live": api.KBool, "time": api.KInt, "odd": -1, "none": 0}
)

// spoken is what a reference or a function is worth, if the component that it speaks of is declared and it may speak so of it.
func spoken(form, attr string) (int, api.Errno) {
	kind, fn := attrs[attr], slices.Contains(inMany, form)
	switch {
	case !strings.Contains(form, "X"):
		return api.KInt, api.OK
	case kind == 0:
		return 0, api.ErrAttr
	case kind < 0 || fn && kind != api.KInt:
		return 0, api.ErrKind
	}
	return kind, api.OK
}

// TestSpoken: P8.1: each way to speak of each component, with each attribute.
func TestSpoken(t *testing.T) {
	q := pattern(t, "Trade a, Note+ b[], !(Trade n), Foreign f, Foreign+ g[], Trade c")
	q.Comps = append(q.Comps, api.Comp{Neg: true, Plus: true, Type: "Note", Var: "both"})
	uses := map[string][]string{"a": single, "n": single, "c": single, "both": single, "b": slices.Concat(many, inMany), "f": nil, "g": nil, "z": nil, "Trade": nil, "A": nil}
	for v, allowed := range uses {
		for _, form := range slices.Concat(single, many, inMany) {
			for attr := range attrs {
				kind, err := spoken(form, attr)
				switch {
				case v == "z" || v == "Trade" || v == "A":
					kind, err = 0, api.ErrVar
				case v == "f" || v == "g":
					kind, err = 0, api.ErrType
				case !slices.Contains(allowed, form):
					kind, err = 0, api.ErrUse
				}
				text := strings.NewReplacer("V", v, "X", attr).Replace(form)
				askKind(t, expr(t, text), q, kind, err)
			}
		}
	}
}

// TestFirst: P8.1, P8.2: of several types, attributes or components of a name the first one counts; what else is wrong with them does not.
func TestFirst(t *testing.T) {
	odd := []api.Type{
		{Name: "T", Attrs: []api.Attr{{Name: "x", Kind: api.KStr}, {Name: "x", Kind: api.KInt}, {Name: "y", Kind: 7}, {Name: "y", Kind: api.KInt}, {Name: "time", Kind: api.KStr}, {Name: "SEQ", Kind: api.KInt}}},
		{Name: "", Attrs: []api.Attr{{Name: "x", Kind: api.KBool}}},
		{Name: "T", Attrs: []api.Attr{{Name: "x", Kind: api.KInt}, {Name: "w", Kind: api.KInt}}},
		{Name: "U", Attrs: slices.Concat(make([]api.Attr, 40), []api.Attr{{Name: "x", Kind: api.KStr}})},
		{Name: "not a name", Attrs: []api.Attr{{Name: "x", Kind: math.MinInt}}},
	}
	q := api.Query{Comps: []api.Comp{{Type: "T", Var: "v"}, {Type: "", Var: "v", Plus: true}, {Type: "", Var: "e"}, {Type: "U", Var: "u", Plus: true}, {Type: "not a name", Var: "n"}, {Type: "T", Var: ""}, {Type: "none", Var: "w"}, {Type: "T", Var: "w"}}}
	for range 20 {
		q.Comps = append(q.Comps, api.Comp{Type: "T", Var: "far"})
	}
	for _, x := range []operand{
		{"v.x", api.KStr, 0}, {"v.y", 0, api.ErrKind}, {"v.time", api.KInt, 0}, {"v.w", 0, api.ErrAttr}, {"v[i].x", 0, api.ErrUse}, {"e.x", api.KBool, 0}, {"u[first].x", api.KStr, 0}, {"sum(u.time)", api.KInt, 0}, {"min(u.x)", 0, api.ErrKind}, {"n.x", 0, api.ErrKind}, {"w.x", 0, api.ErrType}, {"far.x", api.KStr, 0},
	} {
		if k, f := check.Kind(expr(t, x.text), q, odd...); k != x.kind || f != x.err {
			t.Errorf("P8.2: Kind(%q) = %d, %d, want %d, %d", x.text, k, f, x.kind, x.err)
		}
	}
	for _, kind := range []int{math.MinInt, -1, 0, 4, 255, 257, 1<<32 + 1, math.MaxInt} {
		u := api.Type{Name: "T", Attrs: []api.Attr{{Name: "x", Kind: kind}}}
		if k, f := check.Kind(expr(t, "v.x"), q, u); k != 0 || f != api.ErrKind {
			t.Errorf("P8.1: an attribute of the kind %d: %d, %d", kind, k, f)
		}
	}
	if k, f := check.Kind(expr(t, "1 = 2"), api.Query{}); k != api.KBool || f != api.OK {
		t.Errorf("P8.2: Kind without components and types = %d, %d", k, f)
	}
}

// wrongForms are nodes that may not be.
func wrongForms() []api.Expr {
	a := api.Expr{Kind: api.ERef, Var: "a", At: api.AtOne, Attr: "price"}
	c := api.Expr{Kind: api.EAgg, Op: api.FCount, Var: "b", At: api.AtAll}
	list := []api.Expr{{}, num(-1), num(math.MinInt64), un(api.OAdd, a), un(0, a), bin(api.ONot, a, a), bin(14, a, a), {Kind: 6}, {Kind: -1}, {Kind: api.EUn, Op: api.ONeg}, {Kind: api.EUn, Op: api.ONeg, Kids: []api.Expr{a, a}}, {Kind: api.EBin, Op: api.OAdd, Kids: []api.Expr{a}}, {Kind: api.EBin, Op: api.OAdd, Kids: []api.Expr{a, a, a}}, lit(api.Value{}), lit(api.Value{Kind: api.KStr, Str: strings.Repeat("s", 257)}), lit(api.Value{Kind: api.KInt, Bool: true})}
	for _, good := range []api.Expr{a, c, {Kind: api.EAgg, Op: api.FMax, Var: "b", At: api.AtBefore, Attr: "price"}, num(1), un(api.ONeg, a), bin(api.OAdd, a, a)} {
		for _, change := range []func(*api.Expr){
			func(e *api.Expr) { e.Op += 20 }, func(e *api.Expr) { e.Op = -1 }, func(e *api.Expr) { e.At += 7 }, func(e *api.Expr) { e.At = -1 }, func(e *api.Expr) { e.Var += " " }, func(e *api.Expr) { e.Attr += "." },
			func(e *api.Expr) { e.Val.Int = -1 }, func(e *api.Expr) { e.Val.Str += "x" }, func(e *api.Expr) { e.Val.Bool = true }, func(e *api.Expr) { e.Val.Kind += 9 }, func(e *api.Expr) { e.Kids = append(slices.Clone(e.Kids), num(1)) },
		} {
			e := good
			change(&e)
			list = append(list, e)
		}
	}
	c.Attr = "price" // a count speaks of no attribute
	return append(list, c)
}

// TestNoTree: P8.2: ErrTree ahead of all that the walk would find, wherever the fault is.
func TestNoTree(t *testing.T) {
	q := pattern(t, "Trade a, Trade+ b[], Trade c")
	for _, wrong := range wrongForms() {
		for _, e := range []api.Expr{wrong, un(api.ONot, wrong), bin(api.OAnd, expr(t, "z.z"), wrong), bin(api.OAdd, wrong, expr(t, "a[i].x")), bin(api.OEq, un(api.ONeg, wrong), num(1))} {
			askKind(t, e, q, 0, api.ErrTree)
		}
	}
	full := func(depth int) api.Expr {
		e := num(1)
		for range depth - 1 {
			e = bin(api.OAdd, e, e)
		}
		return e
	}
	tall := func(depth int) api.Expr {
		e := num(1)
		for range depth - 1 {
			e = un(api.ONeg, e)
		}
		return e
	}
	askKind(t, tall(32), q, api.KInt, api.OK)
	askKind(t, bin(api.OAdd, num(1), tall(31)), q, api.KInt, api.OK)
	askKind(t, un(api.ONeg, full(8)), q, api.KInt, api.OK) // 256 nodes
	for _, e := range []api.Expr{tall(33), bin(api.OAdd, num(1), tall(32)), bin(api.OAdd, tall(32), num(1)), bin(api.OAdd, full(8), num(1)), un(api.ONeg, un(api.ONeg, full(8))), full(9), full(1000), tall(1000000), {Kids: make([]api.Expr, 1000000)}} {
		askKind(t, e, q, 0, api.ErrTree)
	}
	endless := bin(api.OAnd, num(1), num(1))
	endless.Kids[0], endless.Kids[1] = endless, endless
	askKind(t, endless, q, 0, api.ErrTree)
	askKind(t, bin(api.OAnd, num(1), endless), q, 0, api.ErrTree)
	q.Where = []api.Expr{endless}
	askQuery(t, q, api.Fault{Err: api.ErrTree, Part: api.InWhere})
}

// anyTree is a tree of any form, right ones often among them.
func anyTree(r *rand.Rand, depth int) api.Expr {
	names := []string{"a", "b", "c", "n", "sym", "price", "live", "time"}
	name := func() string { return names[r.Intn(len(names))] }
	e := api.Expr{}
	switch r.Intn(8) {
	case 0:
		e = lit(api.Value{Kind: 1 + r.Intn(3)})
	case 1, 2:
		e = api.Expr{Kind: api.ERef, Var: name(), At: 1 + r.Intn(5), Attr: name()}
	case 3:
		e = api.Expr{Kind: api.EAgg, Op: 1 + r.Intn(4), Var: name(), At: 6 + r.Intn(2), Attr: name()}
		if e.Op == api.FCount {
			e.Attr = ""
		}
	case 4:
		if depth > 1 {
			e = un(1+r.Intn(2), anyTree(r, depth-1))
		}
	default:
		if depth > 1 {
			e = bin(3+r.Intn(11), anyTree(r, depth-1), anyTree(r, depth-1))
		}
	}
	if r.Intn(40) == 0 {
		*[]*int{&e.Kind, &e.Op, &e.At, &e.Val.Kind}[r.Intn(4)] += 1 - 2*r.Intn(2)
	}
	return e
}

// TestAnyTree: P8.2: what is a tree is what package tree takes, however long its text.
func TestAnyTree(t *testing.T) {
	q := pattern(t, "Trade a, Trade+ b[], !(Note n), Trade c")
	r := rand.New(rand.NewSource(82))
	seen := map[api.Errno]int{}
	for range 60000 {
		e := anyTree(r, 1+r.Intn(10))
		_, f := tree.PrintExpr(e)
		nodes, _ := tree.Size(e)
		no := f != api.OK && (f != api.ErrLong || nodes > api.MaxNodes)
		kind, err := check.Kind(e, q, types...)
		if (err == api.ErrTree) != no || (err == api.OK) != (kind >= api.KInt && kind <= api.KBool) || err != api.OK && kind != 0 {
			t.Fatalf("P8.2: Kind(%+v) = %d, %d; PrintExpr: %d", e, kind, err, f)
		}
		seen[err]++
	}
	for _, err := range []api.Errno{api.OK, api.ErrTree, api.ErrVar, api.ErrUse, api.ErrAttr, api.ErrKind} {
		if seen[err] < 100 {
			t.Errorf("too few answers %d: %d", err, seen[err])
		}
	}
}
