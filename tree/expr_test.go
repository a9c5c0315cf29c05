package tree_test

import (
	"fmt"
	"math"
	"math/rand"
	"reflect"
	"regexp"
	"runtime/debug"
	"slices"
	"strings"
	"testing"

	"refrain/api"
	"refrain/tree"
)

func lit(v api.Value) api.Expr { return api.Expr{Kind: api.ELit, Val: v} }
func num(n int64) api.Expr     { return lit(api.Value{Kind: api.KInt, Int: n}) }
func str(s string) api.Expr    { return lit(api.Value{Kind: api.KStr, Str: s}) }
func truth(b bool) api.Expr    { return lit(api.Value{Kind: api.KBool, Bool: b}) }

func ref(v string, at int, attr string) api.Expr {
	return api.Expr{Kind: api.ERef, Var: v, At: at, Attr: attr}
}

func agg(fn int, v string, at int, attr string) api.Expr {
	return api.Expr{Kind: api.EAgg, Op: fn, Var: v, At: at, Attr: attr}
}

func un(op int, x api.Expr) api.Expr {
	return api.Expr{Kind: api.EUn, Op: op, Kids: []api.Expr{x}}
}

func bin(op int, x, y api.Expr) api.Expr {
	return api.Expr{Kind: api.EBin, Op: op, Kids: []api.Expr{x, y}}
}

// times is an operation on one, n times around an expression.
func times(n, op int, e api.Expr) api.Expr {
	for range n {
		e = un(op, e)
	}
	return e
}

// full has 2^depth - 1 nodes.
func full(depth int) api.Expr {
	if depth == 1 {
		return num(1)
	}
	return bin(api.OAdd, full(depth-1), full(depth-1))
}

var (
	ax      = ref("a", api.AtOne, "x")
	yes, no = truth(true), truth(false)
)

// askExpr holds an expression without a fault against what the document says of its text, and answers the text.
func askExpr(t *testing.T, e api.Expr) string {
	t.Helper()
	text, f := tree.PrintExpr(e)
	if f != api.OK {
		t.Fatalf("P6.3: PrintExpr(%+v) = %q, %d", e, text, f)
	}
	if back, ok := read(text, (*reader).or); !ok || !reflect.DeepEqual(back, e) {
		t.Fatalf("P6.4: PrintExpr(%+v) = %q, which is read as %+v, %v", e, text, back, ok)
	}
	if want := spaced(text); text != want {
		t.Fatalf("P6.3: PrintExpr = %q, with its blanks it is %q", text, want)
	}
	for _, less := range without(text) {
		if back, ok := read(less, (*reader).or); ok && reflect.DeepEqual(back, e) {
			t.Fatalf("P6.3: PrintExpr = %q, where brackets stand in vain: %q is the same", text, less)
		}
	}
	return text
}

// TestPrintExprExamples: P6.3, what the document writes out, and what else it says in words.
func TestPrintExprExamples(t *testing.T) {
	for _, x := range []struct {
		e    api.Expr
		text string
	}{
		{bin(api.OSub, bin(api.OSub, ax, num(1)), num(2)), "a.x - 1 - 2"},
		{bin(api.OSub, ax, bin(api.OSub, num(1), num(2))), "a.x - (1 - 2)"},
		{bin(api.OMul, bin(api.OAdd, ax, num(1)), num(2)), "(a.x + 1) * 2"},
		{un(api.ONeg, un(api.ONeg, num(1))), "- -1"},
		{times(4, api.ONeg, num(1)), "- - - -1"},
		{bin(api.OSub, num(1), un(api.ONeg, num(2))), "1 - -2"},
		{bin(api.OSub, num(1), times(2, api.ONeg, num(2))), "1 - - -2"},
		{un(api.ONeg, bin(api.OMul, num(1), num(2))), "-(1 * 2)"},
		{un(api.ONeg, bin(api.OMul, un(api.ONeg, num(1)), num(2))), "-(-1 * 2)"},
		{bin(api.OMul, un(api.ONeg, num(1)), num(2)), "-1 * 2"},
		{un(api.ONeg, str("-")), `-"-"`},
		{un(api.ONot, bin(api.OEq, ax, num(1))), "NOT a.x = 1"},
		{bin(api.OEq, un(api.ONot, yes), no), "(NOT TRUE) = FALSE"},
		{bin(api.OAnd, bin(api.OOr, yes, no), un(api.ONot, un(api.ONot, yes))), "(TRUE OR FALSE) AND NOT NOT TRUE"},
		{bin(api.OAnd, yes, bin(api.OAnd, no, yes)), "TRUE AND (FALSE AND TRUE)"},
		{bin(api.OGt, ref("b", api.AtCur, "x"), agg(api.FMax, "b", api.AtBefore, "x")), "b[i].x > max(b[..i-1].x)"},
		{bin(api.OEq, agg(api.FCount, "b", api.AtAll, ""), num(3)), "count(b) = 3"},
		{ax, "a.x"}, {ref("b", api.AtCur, "x"), "b[i].x"}, {ref("b", api.AtPrev, "x"), "b[i-1].x"}, {ref("b", api.AtFirst, "x"), "b[first].x"}, {ref("b", api.AtLast, "time"), "b[last].time"},
		{agg(api.FCount, "b", api.AtBefore, ""), "count(b[..i-1])"}, {agg(api.FSum, "b", api.AtAll, "x"), "sum(b.x)"}, {agg(api.FSum, "b", api.AtBefore, "x"), "sum(b[..i-1].x)"}, {agg(api.FMin, "b", api.AtAll, "x"), "min(b.x)"}, {agg(api.FMin, "b", api.AtBefore, "x"), "min(b[..i-1].x)"}, {agg(api.FMax, "b", api.AtAll, "x"), "max(b.x)"},
		{ref("sum", api.AtOne, "count"), "sum.count"}, {agg(api.FSum, "sum", api.AtAll, "sum"), "sum(sum.sum)"}, {ref("i", api.AtCur, "i"), "i[i].i"}, {ref("first", api.AtFirst, "first"), "first[first].first"}, {ref("last", api.AtLast, "any"), "last[last].any"}, {agg(api.FCount, "count", api.AtAll, ""), "count(count)"}, {ref("and", api.AtOne, "True"), "and.True"},
		{num(0), "0"}, {num(math.MaxInt64), "9223372036854775807"}, {yes, "TRUE"}, {no, "FALSE"}, {str(""), `""`}, {str("a\"\\\n\t\x00\x7f\xff"), `"a\"\\\n\t\x00\x7f\xff"`}, {str("--"), `"--"`},
		{bin(api.OAdd, num(1), num(2)), "1 + 2"}, {bin(api.OEq, num(1), num(2)), "1 = 2"}, {bin(api.ONe, num(1), num(2)), "1 != 2"}, {bin(api.OLt, num(1), num(2)), "1 < 2"}, {bin(api.OLe, num(1), num(2)), "1 <= 2"}, {bin(api.OGe, num(1), num(2)), "1 >= 2"}, {bin(api.OOr, num(1), num(2)), "1 OR 2"},
		{bin(api.OLt, bin(api.OLt, num(1), num(2)), num(3)), "(1 < 2) < 3"}, {bin(api.OAdd, bin(api.OEq, num(1), num(2)), un(api.ONot, yes)), "(1 = 2) + (NOT TRUE)"}, {un(api.ONeg, un(api.ONot, yes)), "-(NOT TRUE)"}, {un(api.ONot, un(api.ONeg, yes)), "NOT -TRUE"},
	} {
		if text := askExpr(t, x.e); text != x.text {
			t.Errorf("P6.3: PrintExpr(%+v) = %q, want %q", x.e, text, x.text)
		}
	}
}

// grown are the expressions of operations on these, and these.
func grown(parts []api.Expr) []api.Expr {
	out := slices.Clone(parts)
	for op := api.ONeg; op <= api.OOr; op++ {
		for _, x := range parts {
			if op <= api.ONot {
				out = append(out, un(op, x))
				continue
			}
			for _, y := range parts {
				out = append(out, bin(op, x, y))
			}
		}
	}
	return out
}

// TestPrintExprEach: P6.3, P6.4: each expression of two leaves that is three deep has a text of its own, which is read as that expression.
func TestPrintExprEach(t *testing.T) {
	texts := map[string]bool{}
	list := grown(grown([]api.Expr{ax, num(1)}))
	for _, e := range list {
		texts[askExpr(t, e)] = true
	}
	// (Those of the second depth stand in the list twice, but for the leaves: as they grew, and as what more is grown of.)
	if want := 2 + 2*50 + 11*50*50; len(texts) != want {
		t.Errorf("P6.4: %d texts of %d expressions", len(texts), want)
	}
}

// somewhat is an expression of a depth that is at most this.
func somewhat(r *rand.Rand, depth int) api.Expr {
	name := func() string { return []string{"a", "b", "sum", "i", "last", "_9"}[r.Intn(6)] }
	if depth > 1 && r.Intn(5) > 0 {
		op := 1 + r.Intn(13)
		if op <= api.ONot {
			return un(op, somewhat(r, depth-1))
		}
		return bin(op, somewhat(r, depth-1), somewhat(r, depth-1))
	}
	switch r.Intn(6) {
	case 0:
		return num(r.Int63() >> r.Intn(63))
	case 1:
		b := make([]byte, r.Intn(4))
		r.Read(b)
		return str(string(b))
	case 2:
		return truth(r.Intn(2) == 0)
	case 3:
		return ref(name(), 1+r.Intn(5), name())
	case 4:
		return agg(api.FCount, name(), 6+r.Intn(2), "")
	}
	return agg(2+r.Intn(3), name(), 6+r.Intn(2), name())
}

// TestPrintExprMany: P6.3, P6.4: longer expressions of all kinds.
func TestPrintExprMany(t *testing.T) {
	r := rand.New(rand.NewSource(6))
	texts := map[string]api.Expr{}
	for range 20000 {
		e := somewhat(r, 2+r.Intn(5))
		text := askExpr(t, e)
		if other, ok := texts[text]; ok && !tree.Equal(e, other) {
			t.Fatalf("P6.4: %+v and %+v are both %q", e, other, text)
		}
		texts[text] = e
	}
}

// What the fields of a right node look like, but for what its Kids are.
var rightForms = []*regexp.Regexp{
	regexp.MustCompile(`^1 0 good \[\] 0 \[\] 0$`),
	regexp.MustCompile(`^2 0 zero \[name\] [1-5] \[name\] 0$`),
	regexp.MustCompile(`^3 1 zero \[name\] [67] \[\] 0$`),
	regexp.MustCompile(`^3 [234] zero \[name\] [67] \[name\] 0$`),
	regexp.MustCompile(`^4 [12] zero \[\] 0 \[\] 1$`),
	regexp.MustCompile(`^5 ([3-9]|1[0-3]) zero \[\] 0 \[\] 2$`),
}

// TestForm: P6.3: nodes with all fields that may and may not be, by themselves and below others.
func TestForm(t *testing.T) {
	vals := []struct {
		is string
		v  api.Value
	}{
		{"zero", api.Value{}}, {"good", num(0).Val}, {"good", str(strings.Repeat("\xff", 256)).Val}, {"good", no.Val}, {"good", yes.Val},
		{"bad", num(-1).Val}, {"bad", num(math.MinInt64).Val}, {"bad", str(strings.Repeat("s", 257)).Val}, {"bad", api.Value{Kind: 4}}, {"bad", api.Value{Int: 1}}, {"bad", api.Value{Kind: api.KInt, Bool: true}}, {"bad", api.Value{Kind: api.KStr, Int: 1}}, {"bad", api.Value{Kind: api.KBool, Str: "x"}}, {"bad", api.Value{Kind: -1}},
	}
	names := []struct{ is, s string }{{"", ""}, {"name", "a"}, {"bad", "AND"}}
	for kind := -1; kind <= 7; kind++ {
		for op := -1; op <= 15; op++ {
			for at := -1; at <= 9; at++ {
				for _, val := range vals {
					for i := range 9 {
						for kids := range 4 {
							e := api.Expr{Kind: kind, Op: op, Val: val.v, Var: names[i/3].s, At: at, Attr: names[i%3].s, Kids: slices.Repeat([]api.Expr{yes}, kids)}
							is := fmt.Sprintf("%d %d %s [%s] %d [%s] %d", kind, op, val.is, names[i/3].is, at, names[i%3].is, kids)
							askForm(t, e, is)
						}
					}
				}
			}
		}
	}
}

// askForm asks PrintExpr of a node that looks so.
func askForm(t *testing.T, e api.Expr, is string) {
	want := api.ErrTree
	if slices.ContainsFunc(rightForms, func(r *regexp.Regexp) bool { return r.MatchString(is) }) {
		want = api.OK
	}
	text, f := tree.PrintExpr(e)
	if f != want || (text == "") == (want == api.OK) {
		t.Fatalf("P6.3: PrintExpr(%+v) = %q, %d, want %d", e, text, f, want)
	}
}

// TestFormFar: P6.3: numbers of all fields that are far off, and names that may not be.
func TestFormFar(t *testing.T) {
	right := []api.Expr{num(1), ax, agg(api.FCount, "b", api.AtAll, ""), agg(api.FMin, "b", api.AtBefore, "x"), un(api.ONot, ax), bin(api.OOr, ax, yes)}
	for _, e := range right {
		askExpr(t, e)
		for _, n := range []int{math.MinInt, math.MinInt + 1, -1 << 32, -256, -2, 16, 64, 255, 256, 257, 258, 259, 260, 261, 1 << 16, 1<<32 + 1, 1<<32 + 2, 1<<32 + 3, math.MaxInt} {
			for i, wrong := range []api.Expr{e, e, e} {
				*[]*int{&wrong.Kind, &wrong.Op, &wrong.At}[i] = n
				if text, f := tree.PrintExpr(wrong); text != "" || f != api.ErrTree {
					t.Errorf("P6.3: PrintExpr(%+v) = %q, %d, want ErrTree", wrong, text, f)
				}
			}
		}
	}
	long := strings.Repeat("n", 32)
	for _, e := range []api.Expr{ref(long, 1, "x"), ref("a", 5, long), agg(api.FMax, "_", 7, "time"), agg(api.FCount, "time", 7, "")} {
		askExpr(t, e)
	}
	for _, s := range []string{"", "9", "a b", "a.b", " a", "a ", "SEQ", "TRUE", "INT", "\xc3\xa9", long + "n", strings.Repeat("n", 1<<20), "a-b", "[i]", "(", "a\x00", `"a"`} {
		for _, e := range []api.Expr{ref(s, 1, "x"), ref("a", 1, s), agg(api.FSum, s, 6, "x"), agg(api.FSum, "b", 6, s), agg(api.FCount, s, 6, "")} {
			for _, e := range []api.Expr{e, un(api.ONeg, e), bin(api.OAnd, e, yes), bin(api.OAnd, yes, e)} {
				if text, f := tree.PrintExpr(e); text != "" || f != api.ErrTree {
					t.Errorf("P6.3: PrintExpr(%.200v) = %q, %d, want ErrTree", e, text, f)
				}
			}
		}
	}
}

// TestFormBelow: P6.3: a Kid whose form is not right, wherever it stands.
func TestFormBelow(t *testing.T) {
	bad := []api.Expr{{}, num(-1), un(api.OAdd, yes), ref("a", api.AtAll, "x"), {Kind: api.EBin, Op: api.OAdd, Kids: []api.Expr{yes}}, {Kind: 6}}
	r := rand.New(rand.NewSource(66))
	for range 3000 {
		e := somewhat(r, 6)
		var places []*api.Expr
		eachNode(&e, func(x *api.Expr) { places = append(places, x) })
		x := places[r.Intn(len(places))]
		*x = bad[r.Intn(len(bad))]
		if text, f := tree.PrintExpr(e); text != "" || f != api.ErrTree {
			t.Fatalf("P6.3: PrintExpr(%+v) = %q, %d, want ErrTree", e, text, f)
		}
	}
}

// eachNode goes through a tree by recursion, a node ahead of its Kids.
func eachNode(e *api.Expr, f func(*api.Expr)) {
	f(e)
	for i := range e.Kids {
		eachNode(&e.Kids[i], f)
	}
}

// faultyExprs are expressions with their fault, the first one of several.
func faultyExprs() map[string]struct {
	e api.Expr
	f api.Errno
} {
	type faulty = struct {
		e api.Expr
		f api.Errno
	}
	deep, many := times(32, api.ONot, yes), bin(api.OAdd, full(8), num(1))
	under := func(kind int, kids ...api.Expr) api.Expr { return api.Expr{Kind: kind, Kids: kids} }
	return map[string]faulty{
		"33 deep": {deep, api.ErrDeep}, "33 deep, of minus signs": {times(32, api.ONeg, num(1)), api.ErrDeep}, "33 deep, with a wrong form at the end": {times(32, api.ONot, num(-1)), api.ErrDeep}, "33 deep, with a wrong form ahead": {un(7, times(31, api.ONot, yes)), api.ErrDeep}, "33 deep, of kinds that are none": {under(0, times(31, 99, yes)), api.ErrDeep}, "33 deep, under a literal": {under(api.ELit, times(31, api.ONot, yes)), api.ErrDeep}, "33 deep, under a reference": {under(api.ERef, times(31, api.ONot, yes)), api.ErrDeep}, "33 deep, under a function": {under(api.EAgg, times(31, api.ONot, yes)), api.ErrDeep},
		"33 deep on the right":             {bin(api.OAnd, yes, times(31, api.ONot, yes)), api.ErrDeep},
		"33 deep, behind far too many":     {under(api.EBin, full(12), times(31, api.ONot, yes)), api.ErrDeep},
		"33 deep, ahead of far too many":   {under(api.EBin, times(31, api.ONot, yes), full(12)), api.ErrDeep},
		"33 deep, among a great many Kids": {under(9, append(make([]api.Expr, 500), times(31, api.ONot, yes))...), api.ErrDeep},
		"257 nodes":                        {many, api.ErrLong}, "257 nodes, one wrong": {bin(api.OAdd, full(8), num(-1)), api.ErrLong}, "257 nodes, the first one wrong": {bin(99, full(8), num(1)), api.ErrLong}, "257 nodes beside one another": {under(0, make([]api.Expr, 256)...), api.ErrLong}, "257 nodes under a literal": {under(api.ELit, make([]api.Expr, 256)...), api.ErrLong}, "many more": {full(16), api.ErrLong}, "32 deep and too many": {times(24, api.ONeg, many.Kids[0]), api.ErrLong},
		"256 nodes, one wrong": {un(api.ONot, bin(99, full(7), full(7))), api.ErrTree}, "32 deep, the last one wrong": {times(31, api.ONot, num(-1)), api.ErrTree}, "256 nodes that are zero": {under(0, make([]api.Expr, 255)...), api.ErrTree},
		"zero": {api.Expr{}, api.ErrTree},
	}
}

// TestFaultOfExpr: P6.3: the first fault of an expression.
func TestFaultOfExpr(t *testing.T) {
	for what, x := range faultyExprs() {
		if text, f := tree.PrintExpr(x.e); text != "" || f != x.f {
			t.Errorf("P6.3: PrintExpr of what is %s = %q, %d, want %d", what, text, f, x.f)
		}
	}
	wide := full(8) // 255 nodes
	for _, e := range []api.Expr{times(31, api.ONot, yes), times(31, api.ONeg, num(1)), wide, un(api.ONot, wide), un(api.ONot, bin(api.OEq, full(7), full(7))), bin(api.OAdd, times(30, api.ONeg, num(1)), num(2))} {
		askExpr(t, e)
	}
}

// TestExprLong: P6.3: a text of as many bytes as may be, and of one more.
func TestExprLong(t *testing.T) {
	piece := str(strings.Repeat("\xff", 256)) // 1026 bytes
	pair := bin(api.OEq, piece, piece)
	rest := str(strings.Repeat("\xff", 246) + "stuv") // 990 bytes
	n := int64(1)
	for digits := range 12 {
		e := bin(api.OAnd, bin(api.OEq, pair, bin(api.OEq, piece, rest)), num(n))
		n *= 10
		size := len("( = ) = ( = ) AND ") + 3*1026 + 990 + 1 + digits
		want := api.OK
		if size > 4096 {
			want = api.ErrLong
		}
		text, f := tree.PrintExpr(e)
		if f != want || want == api.OK && len(text) != size || want != api.OK && text != "" {
			t.Errorf("P6.3: PrintExpr of what has %d bytes = %d bytes, %d, want %d", size, len(text), f, want)
		}
		if want == api.OK {
			askExpr(t, e)
		}
	}
	if text, f := tree.PrintExpr(bin(api.OAnd, bin(api.OEq, pair, pair), num(-1))); text != "" || f != api.ErrTree {
		t.Errorf("P6.3: a long text of a wrong tree: %d bytes, %d, want ErrTree", len(text), f)
	}
}

// TestDeep: P0.1, P6.5 to P6.7: trees far deeper than the stack goes, and one without an end.
func TestDeep(t *testing.T) {
	defer debug.SetMaxStack(debug.SetMaxStack(8 << 20))
	const depth = 300000
	tall := func(leaf api.Expr) api.Expr { return times(depth, api.ONeg, leaf) }
	a, b := tall(ax), tall(ax)
	if n, d := tree.Size(a); n != depth+1 || d != depth+1 {
		t.Errorf("P6.7: Size of a deep tree = %d, %d", n, d)
	}
	if !tree.Equal(a, b) || tree.Equal(a, tall(yes)) || tree.Equal(a, un(api.ONeg, b)) || tree.Equal(un(api.ONeg, a), b) {
		t.Error("P6.5: Equal of deep trees")
	}
	if refs := tree.Refs(a); !slices.Equal(refs, []api.Ref{{Var: "a", At: api.AtOne, Attr: "x"}}) {
		t.Errorf("P6.6: Refs of a deep tree = %v", refs)
	}
	endless := api.Expr{Kind: api.EBin, Op: api.OAnd, Kids: make([]api.Expr, 2)}
	endless.Kids[0], endless.Kids[1] = endless, endless
	for _, e := range []api.Expr{a, endless, bin(api.OAnd, endless, a), bin(api.OAnd, yes, endless)} {
		if text, f := tree.PrintExpr(e); text != "" || f != api.ErrDeep {
			t.Errorf("P6.3: PrintExpr of a deep tree = %q, %d, want ErrDeep", text, f)
		}
		q := plain()
		q.Where = []api.Expr{e}
		if text, f := tree.Print(q); text != "" || f != api.ErrDeep || tree.Check(q) != api.ErrDeep {
			t.Errorf("P6.1: Print with a deep tree = %q, %d, want ErrDeep", text, f)
		}
	}
}
