package tree_test

import (
	"math/rand"
	"reflect"
	"slices"
	"sync"
	"testing"

	"refrain/api"
	"refrain/tree"
)

// odd is a tree of any form: fields and Kids whatever its kind is.
func odd(r *rand.Rand, depth int) api.Expr {
	names := []string{"", "a", "b", "AND", "\xff"}
	e := api.Expr{Kind: r.Intn(9) - 1, Op: r.Intn(5), Var: names[r.Intn(5)], At: r.Intn(4) - 1, Attr: names[r.Intn(5)]}
	if r.Intn(3) == 0 {
		e.Val = api.Value{Kind: r.Intn(5), Int: int64(r.Intn(2)), Str: names[r.Intn(2)], Bool: r.Intn(2) == 0}
	}
	if depth > 1 {
		e.Kids = make([]api.Expr, 0, 4)
		for range r.Intn(4) {
			e.Kids = append(e.Kids, odd(r, depth-1))
		}
	}
	return e
}

// clone is a tree of its own that is the same; empty lists of Kids are nil.
func clone(e api.Expr) api.Expr {
	kids := e.Kids
	e.Kids = nil
	for _, k := range kids {
		e.Kids = append(e.Kids, clone(k))
	}
	return e
}

func modelRefs(e api.Expr) []api.Ref {
	switch e.Kind {
	case api.ELit:
		return nil
	case api.ERef:
		return []api.Ref{{Var: e.Var, At: e.At, Attr: e.Attr}}
	case api.EAgg:
		return []api.Ref{{Var: e.Var, At: e.At, Attr: e.Attr, Fn: e.Op}}
	}
	var out []api.Ref
	for _, k := range e.Kids {
		out = append(out, modelRefs(k)...)
	}
	return out
}

func modelSize(e api.Expr) (int, int) {
	nodes, depth := 1, 1
	for _, k := range e.Kids {
		n, d := modelSize(k)
		nodes += n
		depth = max(depth, d+1)
	}
	return nodes, depth
}

// askTree holds Refs and Size of a tree against the models.
func askTree(t *testing.T, e api.Expr) {
	t.Helper()
	if refs, want := tree.Refs(e), modelRefs(e); !slices.Equal(refs, want) {
		t.Fatalf("P6.6: Refs(%+v) = %v, want %v", e, refs, want)
	}
	nodes, depth := tree.Size(e)
	if n, d := modelSize(e); nodes != n || depth != d {
		t.Fatalf("P6.7: Size(%+v) = %d, %d, want %d, %d", e, nodes, depth, n, d)
	}
}

// TestRefsAndSize: P6.6, P6.7, what the document writes out, and trees of any form.
func TestRefsAndSize(t *testing.T) {
	e := bin(api.OAdd, ax, bin(api.OMul, agg(api.FSum, "b", api.AtAll, "y"), ax))
	if refs := tree.Refs(e); !slices.Equal(refs, []api.Ref{{Var: "a", At: api.AtOne, Attr: "x"}, {Var: "b", At: api.AtAll, Attr: "y", Fn: api.FSum}, {Var: "a", At: api.AtOne, Attr: "x"}}) {
		t.Errorf("P6.6: Refs = %v", refs)
	}
	if n, d := tree.Size(e); n != 5 || d != 3 {
		t.Errorf("P6.7: Size = %d, %d, want 5, 3", n, d)
	}
	if n, d := tree.Size(api.Expr{}); n != 1 || d != 1 {
		t.Errorf("P6.7: Size of the zero one = %d, %d, want 1, 1", n, d)
	}
	wide := api.Expr{Kids: slices.Repeat([]api.Expr{ax, num(1), agg(7, "", -1, "\xff")}, 50000)}
	askTree(t, wide)
	askTree(t, bin(api.OAdd, wide, un(api.ONot, wide)))
	r := rand.New(rand.NewSource(67))
	for range 20000 {
		askTree(t, odd(r, 1+r.Intn(5)))
		askTree(t, somewhat(r, 1+r.Intn(6)))
	}
}

// different are the ways in which one field of a node may be another.
func different() []func(*api.Expr) {
	return []func(*api.Expr){
		func(e *api.Expr) { e.Kind++ }, func(e *api.Expr) { e.Op-- }, func(e *api.Expr) { e.At ^= 8 },
		func(e *api.Expr) { e.Val.Kind++ }, func(e *api.Expr) { e.Val.Int-- }, func(e *api.Expr) { e.Val.Str += "\x00" }, func(e *api.Expr) { e.Val.Bool = !e.Val.Bool },
		func(e *api.Expr) { e.Var += " " }, func(e *api.Expr) { e.Attr = "A" + e.Attr }, func(e *api.Expr) { e.Var, e.Attr = e.Attr+"v", e.Var },
		func(e *api.Expr) { e.Kids = append(slices.Clone(e.Kids), api.Expr{}) }, func(e *api.Expr) { e.Kids = append([]api.Expr{ax}, e.Kids...) }, func(e *api.Expr) { e.Kids = []api.Expr{*e} },
	}
}

// TestEqual: P6.5: trees that are the same, and trees that differ in one thing, wherever it is.
func TestEqual(t *testing.T) {
	r := rand.New(rand.NewSource(65))
	for range 2000 {
		a := odd(r, 1+r.Intn(5))
		same := clone(a)
		if !tree.Equal(a, a) || !tree.Equal(a, same) || !tree.Equal(same, a) {
			t.Fatalf("P6.5: %+v is not Equal to itself", a)
		}
		for _, change := range different() {
			b := clone(a)
			var places []*api.Expr
			eachNode(&b, func(x *api.Expr) { places = append(places, x) })
			change(places[r.Intn(len(places))])
			if tree.Equal(a, b) || tree.Equal(b, a) {
				t.Fatalf("P6.5: %+v is Equal to %+v", a, b)
			}
		}
	}
}

// TestEqualEach: P6.5: each two of many trees: Equal just if they are the same. P6.4: if they have texts, just if their texts are.
func TestEqualEach(t *testing.T) {
	r := rand.New(rand.NewSource(64))
	list := []api.Expr{{}, {Kids: []api.Expr{}}, {Kids: []api.Expr{{}}}, {Kids: []api.Expr{{}, {}}}, {Kids: []api.Expr{{Kids: []api.Expr{{}}}}}, bin(api.OAdd, ax, yes), bin(api.OAdd, yes, ax), bin(api.OAdd, ax, ax), bin(api.OAdd, bin(api.OAdd, ax, ax), ax), bin(api.OAdd, ax, bin(api.OAdd, ax, ax))}
	for range 300 {
		list = append(list, odd(r, 2), somewhat(r, 1), somewhat(r, 2))
	}
	for _, a := range list {
		for _, b := range list {
			same := reflect.DeepEqual(clone(a), clone(b))
			if tree.Equal(a, b) != same {
				t.Fatalf("P6.5: Equal(%+v, %+v) = %v", a, b, !same)
			}
			s, e := tree.PrintExpr(a)
			s2, e2 := tree.PrintExpr(b)
			if e == api.OK && e2 == api.OK && (s == s2) != same {
				t.Fatalf("P6.4: %+v is %q, %+v is %q", a, s, b, s2)
			}
		}
	}
}

// TestMemory: P6.8, P0.3: arguments stay as they are, spare room too; answers are new memory.
func TestMemory(t *testing.T) {
	kids := []api.Expr{ax, agg(api.FSum, "b", api.AtAll, "y"), yes, no}
	e := api.Expr{Kind: api.EBin, Op: api.OAdd, Kids: kids[:2]}
	q := whole()
	q.Comps = append(q.Comps, api.Comp{Type: "spare", Var: "spare"})
	q.Equiv = append(q.Equiv, "spare")
	q.Where = []api.Expr{e, un(api.ONot, e), no}
	q.Items = append(q.Items, api.Item{Name: "spare"})
	all := q
	q.Comps, q.Equiv, q.Where, q.Items = q.Comps[:3], q.Equiv[:2], q.Where[:2], q.Items[:1]
	ahead := noNil(all)
	ahead.Comps, ahead.Items = slices.Clone(all.Comps), slices.Clone(all.Items)
	kidsAhead := slices.Clone(kids)
	text, _ := tree.Print(q)
	refs := tree.Refs(e)
	for range 2 {
		again, refsAgain := []api.Ref{}, tree.Refs(e)
		again = append(again, refsAgain...)
		refsAgain = append(refsAgain, api.Ref{Var: "z"})
		clear(refsAgain[:cap(refsAgain)])
		if !slices.Equal(refs, again) {
			t.Errorf("P6.8: Refs = %v, ahead of it %v", again, refs)
		}
		tree.Size(e)
		tree.Equal(e, clone(e))
		tree.PrintExpr(e)
		tree.Check(q)
		if s, _ := tree.Print(q); s != text {
			t.Errorf("P6.8: Print = %q, ahead of it %q", s, text)
		}
	}
	if !reflect.DeepEqual(all, ahead) || !reflect.DeepEqual(kids, kidsAhead) {
		t.Error("P6.8: an argument was changed")
	}
}

// TestAlike: P6.8, P0.5: the same calls answer the same, whatever is asked beside them.
func TestAlike(t *testing.T) {
	play := func() []any {
		r := rand.New(rand.NewSource(1))
		var out []any
		for range 300 {
			e, x := somewhat(r, 4), odd(r, 4)
			s, f := tree.PrintExpr(e)
			_, f2 := tree.PrintExpr(x)
			n, d := tree.Size(x)
			q := whole()
			q.Where = append(q.Where, e)
			s2, f3 := tree.Print(q)
			out = append(out, s, f, f2, n, d, s2, f3, tree.Check(q), tree.Refs(x), tree.Equal(e, x), tree.Equal(x, x))
		}
		return out
	}
	want := play()
	var wait sync.WaitGroup
	for range 8 {
		wait.Go(func() {
			for range 10 {
				if got := play(); !reflect.DeepEqual(got, want) {
					t.Error("the same calls answered otherwise")
					return
				}
			}
		})
	}
	wait.Wait()
}
