package check_test

import (
	"math/rand"
	"reflect"
	"slices"
	"sync"
	"testing"

	"refrain/api"
	"refrain/check"
)

// TestMemory: P8.5, P0.3: what is handed in stays as it is, spare room too; what is changed behind a call changes nothing of another one.
func TestMemory(t *testing.T) {
	whole := func() (api.Query, []api.Type) {
		q := query(t, wholeText)
		q.Comps = append(q.Comps, api.Comp{Type: "spare"})
		q.Equiv = append(q.Equiv, "spare")
		q.Where = append(q.Where, api.Expr{})
		q.Items = append(q.Items, api.Item{Name: "spare"})
		list := []api.Type{}
		for _, u := range types {
			u.Attrs = append(slices.Clone(u.Attrs), api.Attr{Name: "spare"})
			list = append(list, u)
		}
		return q, append(list, api.Type{Name: "spare"})
	}
	all, list := whole()
	wantAll, wantList := whole()
	q := all
	q.Comps, q.Equiv, q.Where, q.Items = q.Comps[:4], q.Equiv[:3], q.Where[:3], q.Items[:2]
	given := slices.Clone(list[:3])
	for i := range given {
		given[i].Attrs = given[i].Attrs[:len(given[i].Attrs)-1]
	}
	for range 2 {
		if f := check.Query(q, given...); f != (api.Fault{}) {
			t.Errorf("P8.5: %+v", f)
		}
		for _, e := range q.Where {
			if k, err := check.Kind(e, q, given...); k != api.KBool || err != api.OK {
				t.Errorf("P8.5: %d, %d", k, err)
			}
		}
		if f := check.Query(all, list...); f != (api.Fault{Err: api.ErrVar, Part: api.InComps, Num: 4}) {
			t.Errorf("P8.5: with what was spare: %+v", f)
		}
		if !reflect.DeepEqual(all, wantAll) || !reflect.DeepEqual(list, wantList) {
			t.Fatal("P8.5: an argument was changed")
		}
	}
	given[0].Attrs[0].Kind = api.KInt
	if f := check.Query(q, given...); f != (api.Fault{Err: api.ErrKind, Part: api.InPart}) {
		t.Errorf("P8.5: with another kind: %+v", f)
	}
}

// anyQuery is one of any form.
func anyQuery(r *rand.Rand) api.Query {
	pick := func(list ...string) string { return list[r.Intn(len(list))] }
	q := api.Query{Strategy: r.Intn(5), Within: int64(r.Intn(9)) - 1, Part: pick("", "", "sym", "mixed"), Out: pick("", "", "Pair", "Nope")}
	for range r.Intn(5) {
		q.Comps = append(q.Comps, api.Comp{Neg: r.Intn(4) == 0, Plus: r.Intn(4) == 0, Type: pick("Trade", "Trade", "Note", "T"), Var: pick("a", "b", "c", "n", "SEQ")})
	}
	for range r.Intn(3) {
		q.Equiv = append(q.Equiv, pick("sym", "price", "odd"))
	}
	for range r.Intn(3) {
		q.Where = append(q.Where, anyTree(r, 3))
	}
	for range r.Intn(4) {
		q.Items = append(q.Items, api.Item{Name: pick("a", "b", "BY"), Expr: anyTree(r, 3)})
	}
	return q
}

// TestAlike: P8.5, P0.1, P0.5: whatever is asked, it is answered, and again alike, whoever else asks.
func TestAlike(t *testing.T) {
	play := func() []any {
		r := rand.New(rand.NewSource(85))
		out := []any{}
		for range 3000 {
			q, e := anyQuery(r), anyTree(r, 4)
			list := types[:r.Intn(len(types)+1)]
			k, err := check.Kind(e, q, list...)
			out = append(out, check.Query(q, list...), k, err)
		}
		return out
	}
	want := play()
	var wait sync.WaitGroup
	for range 8 {
		wait.Go(func() {
			for range 3 {
				if got := play(); !reflect.DeepEqual(got, want) {
					t.Error("P8.5: the same calls answered otherwise")
					return
				}
			}
		})
	}
	wait.Wait()
}
