package schema_test

import (
	"math"
	"reflect"
	"slices"
	"strconv"
	"strings"
	"sync"
	"testing"

	"refrain/api"
	"refrain/schema"
)

func trade() api.Type {
	return api.Type{Name: "Trade", Attrs: []api.Attr{{Name: "price", Kind: api.KInt}, {Name: "sym", Kind: api.KStr}, {Name: "live", Kind: api.KBool}}}
}

// attrs are n attributes with names of their own and kinds by turns.
func attrs(n int) []api.Attr {
	var out []api.Attr
	for i := range n {
		out = append(out, api.Attr{Name: "a" + strconv.Itoa(i), Kind: api.KInt + i%3})
	}
	return out
}

func same(a, b api.Type) bool { return a.Name == b.Name && slices.Equal(a.Attrs, b.Attrs) }

func sameList(a, b []api.Type) bool { return slices.EqualFunc(a, b, same) }

func zero(t api.Type) bool { return t.Name == "" && len(t.Attrs) == 0 }

// rightTypes are types with which nothing is wrong, each with a name of its own.
func rightTypes() []api.Type {
	out := []api.Type{
		trade(), {Name: "Tick"}, {Name: "tick", Attrs: []api.Attr{}}, {Name: "time", Attrs: []api.Attr{{Name: "Time", Kind: api.KInt}, {Name: "TIME", Kind: api.KStr}}},
		{Name: "Self", Attrs: []api.Attr{{Name: "Self", Kind: api.KBool}}}, {Name: "Cases", Attrs: []api.Attr{{Name: "a", Kind: api.KInt}, {Name: "A", Kind: api.KInt}, {Name: "int", Kind: api.KInt}, {Name: "_", Kind: api.KStr}}},
		{Name: "Full", Attrs: attrs(16)}, {Name: strings.Repeat("n", 32), Attrs: []api.Attr{{Name: strings.Repeat("m", 32), Kind: api.KBool}}},
	}
	wide := api.Type{Name: strings.Repeat("W", 32)}
	for i := range api.MaxAttrs {
		wide.Attrs = append(wide.Attrs, api.Attr{Name: strings.Repeat("w", 30) + strconv.Itoa(10+i), Kind: api.KBool})
	}
	return append(out, wide)
}

// wrongType is a type with what is wrong with it.
type wrongType struct {
	t api.Type
	e api.Errno
}

// wrongTypes are types with one thing wrong, and with several, of which the first counts.
func wrongTypes() []wrongType {
	list := func(as ...api.Attr) api.Type { return api.Type{Name: "T", Attrs: as} }
	good, dup, bare := api.Attr{Name: "a", Kind: api.KInt}, api.Attr{Name: "a", Kind: api.KStr}, api.Attr{}
	out := []wrongType{
		{api.Type{}, api.ErrName}, {api.Type{Attrs: attrs(3)}, api.ErrName}, {api.Type{Name: "9", Attrs: attrs(17)}, api.ErrName}, {api.Type{Name: "9", Attrs: []api.Attr{dup, good}}, api.ErrName},
		{api.Type{Name: "T", Attrs: attrs(17)}, api.ErrLong}, {api.Type{Name: "T", Attrs: make([]api.Attr, 17)}, api.ErrLong}, {api.Type{Name: "T", Attrs: make([]api.Attr, 100000)}, api.ErrLong},
		{list(bare), api.ErrName}, {list(good, bare), api.ErrName}, {list(api.Attr{Name: "time", Kind: api.KInt}), api.ErrName}, {list(api.Attr{Name: "time", Kind: 9}), api.ErrName}, {list(good, api.Attr{Name: "time", Kind: api.KInt}), api.ErrName},
		{list(api.Attr{Name: "a"}), api.ErrDecl}, {list(good, dup), api.ErrDup}, {list(good, good), api.ErrDup}, {list(good, api.Attr{Name: "b", Kind: api.KInt}, dup), api.ErrDup}, {list(api.Attr{Name: "b", Kind: api.KInt}, good, dup), api.ErrDup},
		{list(good, api.Attr{Name: "a", Kind: 4}), api.ErrDecl}, {list(good, dup, bare), api.ErrDup}, {list(good, dup, api.Attr{Name: "b"}), api.ErrDup}, {list(good, api.Attr{Name: "b"}, dup), api.ErrDecl}, {list(api.Attr{Name: "a"}, bare), api.ErrDecl}, {list(bare, api.Attr{Name: "b"}), api.ErrName},
		{api.Type{Name: "T", Attrs: append(attrs(15), api.Attr{Name: "a0", Kind: api.KInt})}, api.ErrDup}, {api.Type{Name: "T", Attrs: append(attrs(15), api.Attr{Name: "a14", Kind: api.KInt})}, api.ErrDup}, {api.Type{Name: "T", Attrs: append(attrs(15), bare)}, api.ErrName},
	}
	for _, kind := range []int{math.MinInt, -3, -1, 0, 4, 5, 64, 256, 257, 1 << 32, math.MaxInt} {
		out = append(out, wrongType{list(api.Attr{Name: "a", Kind: kind}), api.ErrDecl}, wrongType{api.Type{Name: "T", Attrs: append(attrs(15), api.Attr{Name: "b", Kind: kind})}, api.ErrDecl})
	}
	for _, s := range oddNames() {
		if !isName(s) {
			out = append(out, wrongType{api.Type{Name: s}, api.ErrName}, wrongType{list(api.Attr{Name: s, Kind: api.KInt}), api.ErrName}, wrongType{list(good, api.Attr{Name: s, Kind: 7}), api.ErrName})
		}
	}
	return out
}

func declareAll(t *testing.T, c *schema.Catalog, types []api.Type) {
	t.Helper()
	for _, u := range types {
		if e := c.Declare(u); e != api.OK {
			t.Fatalf("Declare(%+v) = %d", u, e)
		}
	}
}

// TestDeclareAndFind: P2.2, types that nothing is wrong with.
func TestDeclareAndFind(t *testing.T) {
	c := schema.New()
	if l := c.List(); len(l) != 0 {
		t.Errorf("List of an empty catalog = %+v", l)
	}
	for _, u := range rightTypes() {
		if v, e := c.Find(u.Name); !zero(v) || e != api.ErrType {
			t.Errorf("Find(%q) ahead of its declaration = %+v, %d", u.Name, v, e)
		}
		if e := c.Declare(u); e != api.OK {
			t.Errorf("Declare(%+v) = %d", u, e)
		}
	}
	for range 2 {
		for _, u := range rightTypes() {
			if v, e := c.Find(u.Name); !same(v, u) || e != api.OK {
				t.Errorf("Find(%q) = %+v, %d, want %+v", u.Name, v, e, u)
			}
		}
	}
	for _, s := range []string{"", "trade", "TRADE", "Trade ", "Trad", "Trades", "price", "INT", "\xff", strings.Repeat("n", 31), strings.Repeat("n", 33)} {
		if v, e := c.Find(s); !zero(v) || e != api.ErrType {
			t.Errorf("Find(%q) = %+v, %d, want ErrType", s, v, e)
		}
	}
}

// TestDeclareRefused: P2.2, P0.2: the first thing that is wrong, ahead of what the catalog has; nothing changes.
func TestDeclareRefused(t *testing.T) {
	named := func(name string) api.Type { return api.Type{Name: name, Attrs: attrs(2)} }
	for _, have := range [][]api.Type{nil, {named("T"), named("U")}, fullCatalog()} {
		c := schema.New()
		declareAll(t, c, have)
		want := c.List()
		for _, w := range wrongTypes() {
			if e := c.Declare(w.t); e != w.e {
				t.Errorf("Declare(%.200v) beside %d types = %d, want %d", w.t, len(have), e, w.e)
			}
			if v, e := c.Find(w.t.Name); e == api.OK && !slices.ContainsFunc(have, func(u api.Type) bool { return same(u, v) }) {
				t.Errorf("Declare(%.200v) was refused, but Find knows it", w.t)
			}
		}
		if got := c.List(); !sameList(got, want) {
			t.Errorf("what was refused changed the catalog: %+v", got)
		}
	}
}

// fullCatalog are as many types as a catalog takes, T and U among them.
func fullCatalog() []api.Type {
	out := []api.Type{{Name: "T", Attrs: attrs(2)}, {Name: "U", Attrs: attrs(2)}}
	for i := len(out); i < api.MaxTypes; i++ {
		out = append(out, api.Type{Name: "N" + strconv.Itoa(i*i), Attrs: attrs(i % 17)})
	}
	return out
}

// TestDeclareTwice: P2.2: the first one stays, whatever the second one is.
func TestDeclareTwice(t *testing.T) {
	c := schema.New()
	declareAll(t, c, []api.Type{trade()})
	for _, u := range []api.Type{trade(), {Name: "Trade"}, {Name: "Trade", Attrs: attrs(16)}} {
		if e := c.Declare(u); e != api.ErrDup {
			t.Errorf("Declare(%+v) again = %d, want ErrDup", u, e)
		}
		if v, e := c.Find("Trade"); !same(v, trade()) || e != api.OK {
			t.Errorf("then Find = %+v, %d", v, e)
		}
	}
	if l := c.List(); !sameList(l, []api.Type{trade()}) {
		t.Errorf("List = %+v", l)
	}
}

// TestFull: P2.2: 64 types and no more; one that is there is ErrDup even then.
func TestFull(t *testing.T) {
	c := schema.New()
	all := fullCatalog()
	declareAll(t, c, all)
	for _, u := range []api.Type{{Name: "More"}, trade()} {
		if e := c.Declare(u); e != api.ErrFull {
			t.Errorf("Declare of a 65th = %d, want ErrFull", e)
		}
		if v, e := c.Find(u.Name); !zero(v) || e != api.ErrType {
			t.Errorf("Find of the 65th = %+v, %d", v, e)
		}
		if e := c.Check(api.Event{Type: u.Name}); e != api.ErrType {
			t.Errorf("Check of the 65th = %d", e)
		}
	}
	for _, u := range all {
		if e := c.Declare(u); e != api.ErrDup {
			t.Errorf("Declare(%q) again = %d, want ErrDup", u.Name, e)
		}
		if v, e := c.Find(u.Name); !same(v, u) || e != api.OK {
			t.Errorf("Find(%q) = %+v, %d", u.Name, v, e)
		}
	}
	if n := len(c.List()); n != api.MaxTypes {
		t.Errorf("List has %d types", n)
	}
}

// TestList: P2.2: rising by bytes, whatever the order of the declarations; each time the same.
func TestList(t *testing.T) {
	rise := []string{"A", "A0", "A9", "AA", "AAA", "AB", "A_", "Aa", "B", "Z", "Za", "_", "_0", "__", "a", "a0", "aA", "a_", "aa", "b", "z", "zz"}
	for shift := range len(rise) {
		c := schema.New()
		var want []api.Type
		for i := range rise {
			j := (i*7 + shift) % len(rise)
			declareAll(t, c, []api.Type{{Name: rise[j], Attrs: attrs(j % 17)}})
		}
		for j, name := range rise {
			want = append(want, api.Type{Name: name, Attrs: attrs(j % 17)})
		}
		for range 3 {
			if l := c.List(); !sameList(l, want) {
				t.Fatalf("List = %+v", l)
			}
		}
	}
}

// TestCatalogsApart: P2.2, P0.5: two catalogs know nothing of each other.
func TestCatalogsApart(t *testing.T) {
	c, d := schema.New(), schema.New()
	declareAll(t, c, fullCatalog())
	if l := d.List(); len(l) != 0 {
		t.Errorf("the other catalog has %+v", l)
	}
	if v, e := d.Find("T"); !zero(v) || e != api.ErrType {
		t.Errorf("the other catalog finds %+v, %d", v, e)
	}
	declareAll(t, d, []api.Type{{Name: "T"}})
	if v, _ := c.Find("T"); !same(v, fullCatalog()[0]) {
		t.Errorf("the first catalog has the other one's type: %+v", v)
	}
	if l := schema.New().List(); len(l) != 0 {
		t.Errorf("a third one has %+v", l)
	}
}

func number(n int64) api.Value { return api.Value{Kind: api.KInt, Int: n} }

func str(s string) api.Value { return api.Value{Kind: api.KStr, Str: s} }

func truth(b bool) api.Value { return api.Value{Kind: api.KBool, Bool: b} }

// TestCheckOrder: P2.3: the first of the faults.
func TestCheckOrder(t *testing.T) {
	c := schema.New()
	declareAll(t, c, []api.Type{trade(), {Name: "Tick"}})
	good := []api.Value{number(12), str("abc"), truth(true)}
	wrong := []api.Value{str("12"), {}, {}}
	for _, x := range []struct {
		e    api.Event
		want api.Errno
	}{
		{api.Event{Type: "Trade", Time: 5, Vals: good}, api.OK}, {api.Event{Type: "Tick"}, api.OK}, {api.Event{Type: "Tick", Time: 1, Vals: []api.Value{}}, api.OK},
		{api.Event{}, api.ErrType}, {api.Event{Type: "Quote", Time: -1}, api.ErrType}, {api.Event{Type: "trade", Time: 5, Vals: good}, api.ErrType}, {api.Event{Type: "", Time: -1, Vals: wrong}, api.ErrType}, {api.Event{Type: "Trade ", Time: 5, Vals: good}, api.ErrType},
		{api.Event{Type: "Trade", Time: 0, Vals: good}, api.OK}, {api.Event{Type: "Trade", Time: 1 << 62, Vals: good}, api.OK}, {api.Event{Type: "Trade", Time: 1<<62 - 1, Vals: good}, api.OK},
		{api.Event{Type: "Trade", Time: -1, Vals: good}, api.ErrTime}, {api.Event{Type: "Trade", Time: 1<<62 + 1, Vals: good}, api.ErrTime}, {api.Event{Type: "Trade", Time: math.MaxInt64, Vals: good}, api.ErrTime}, {api.Event{Type: "Trade", Time: math.MinInt64, Vals: good}, api.ErrTime}, {api.Event{Type: "Trade", Time: -1}, api.ErrTime}, {api.Event{Type: "Trade", Time: -1, Vals: wrong}, api.ErrTime}, {api.Event{Type: "Tick", Time: -1}, api.ErrTime},
		{api.Event{Type: "Trade", Time: 5}, api.ErrArity}, {api.Event{Type: "Trade", Time: 5, Vals: good[:1]}, api.ErrArity}, {api.Event{Type: "Trade", Time: 5, Vals: good[:2]}, api.ErrArity}, {api.Event{Type: "Trade", Time: 5, Vals: append(good[:3:3], number(1))}, api.ErrArity}, {api.Event{Type: "Trade", Time: 5, Vals: wrong[:2]}, api.ErrArity}, {api.Event{Type: "Trade", Time: 5, Vals: make([]api.Value, 100000)}, api.ErrArity}, {api.Event{Type: "Tick", Vals: good[:1]}, api.ErrArity},
		{api.Event{Type: "Trade", Time: 5, Vals: wrong}, api.ErrKind}, {api.Event{Type: "Trade", Time: 5, Vals: make([]api.Value, 3)}, api.ErrKind},
	} {
		if e := c.Check(x.e); e != x.want {
			t.Errorf("Check(%.200v) = %d, want %d", x.e, e, x.want)
		}
	}
	if l := c.List(); len(l) != 2 {
		t.Errorf("Check changed the catalog: %+v", l)
	}
}

// TestCheckValues: P2.3, value by value: one place with each value that is wrong for it, all others right; and two places, of which the first counts.
func TestCheckValues(t *testing.T) {
	c := schema.New()
	declareAll(t, c, []api.Type{trade(), {Name: "Full", Attrs: attrs(16)}})
	long := strings.Repeat("\xff", api.MaxStr)
	right := [][]api.Value{
		{number(0), number(-1), number(math.MinInt64), number(math.MaxInt64)},
		{str(""), str("abc"), str("\x00\n"), str(long)},
		{truth(false), truth(true)},
	}
	invalid := [][]api.Value{
		{{Kind: api.KInt, Str: "x"}, {Kind: api.KInt, Int: 1, Bool: true}},
		{str(long + "x"), str(strings.Repeat("a", 100000)), {Kind: api.KStr, Str: "a", Int: 1}, {Kind: api.KStr, Bool: true}},
		{{Kind: api.KBool, Int: 1}, {Kind: api.KBool, Bool: true, Str: "x"}},
	}
	kindless := []api.Value{{}, {Kind: -1}, {Kind: 4, Int: 1}, {Kind: math.MaxInt}, {Int: 1, Str: "a", Bool: true}}
	type wrong struct {
		v api.Value
		e api.Errno
	}
	// wrongs are values for a place of this kind, each with what is wrong with it.
	wrongs := func(kind int) []wrong {
		var out []wrong
		for k := range right {
			for _, v := range append(slices.Clone(right[k]), invalid[k]...) {
				if k+1 != kind {
					out = append(out, wrong{v, api.ErrKind})
				}
			}
		}
		for _, v := range invalid[kind-1] {
			out = append(out, wrong{v, api.ErrValue})
		}
		for _, v := range kindless {
			out = append(out, wrong{v, api.ErrKind})
		}
		return out
	}
	for _, name := range []string{"Trade", "Full"} {
		u, _ := c.Find(name)
		vals := make([]api.Value, len(u.Attrs))
		ask := func(want api.Errno) {
			t.Helper()
			if e := c.Check(api.Event{Type: name, Time: 9, Vals: vals}); e != want {
				t.Errorf("Check of %s with %.200v = %d, want %d", name, vals, e, want)
			}
		}
		for round := range 4 {
			for i, a := range u.Attrs {
				vals[i] = right[a.Kind-1][round%len(right[a.Kind-1])]
			}
			ask(api.OK)
		}
		for i, a := range u.Attrs {
			old := vals[i]
			for _, w := range wrongs(a.Kind) {
				vals[i] = w.v
				ask(w.e)
				for j := i + 1; j < len(vals); j++ {
					old := vals[j]
					for _, x := range wrongs(u.Attrs[j].Kind) {
						vals[j] = x.v
						ask(w.e)
					}
					vals[j] = old
				}
			}
			vals[i] = old
		}
		ask(api.OK)
	}
}

// TestHandedIn: P2.6, P0.3: what is handed in is not changed and not kept, its spare room neither.
func TestHandedIn(t *testing.T) {
	room := append(attrs(16), attrs(16)...)
	want := slices.Clone(room)
	c := schema.New()
	for n := range 17 {
		u := api.Type{Name: "T" + strconv.Itoa(n), Attrs: room[n : 2*n]}
		declareAll(t, c, []api.Type{u})
		if _, e := schema.Print(u); e != api.OK {
			t.Errorf("Print(%+v) = %d", u, e)
		}
	}
	vals := []api.Value{number(1), str("a"), truth(true), number(7), number(8)}
	declareAll(t, c, []api.Type{trade()})
	if e := c.Check(api.Event{Type: "Trade", Time: 1, Vals: vals[:3]}); e != api.OK {
		t.Errorf("Check = %d", e)
	}
	if !slices.Equal(vals, []api.Value{number(1), str("a"), truth(true), number(7), number(8)}) {
		t.Errorf("Check wrote into the values: %v", vals)
	}
	if !slices.Equal(room, want) {
		t.Errorf("the attributes that were handed in have changed: %+v", room)
	}
	clear(room)
	for n := range 17 {
		u := api.Type{Name: "T" + strconv.Itoa(n), Attrs: want[n : 2*n]}
		if v, e := c.Find(u.Name); !same(v, u) || e != api.OK {
			t.Errorf("the catalog kept the list that was handed in: %+v, %d", v, e)
		}
	}
}

// spoil writes into a type's list, into its spare room and behind it.
func spoil(u *api.Type) {
	u.Name = "spoilt"
	spare := u.Attrs[:cap(u.Attrs)]
	for i := range spare {
		spare[i] = api.Attr{Name: "spoilt", Kind: 99}
	}
	u.Attrs = append(u.Attrs, api.Attr{Name: "spoilt", Kind: 99})
}

// TestHandedOut: P2.6, P0.3: whoever writes into an answer, or behind it, changes nothing that is kept or was answered.
func TestHandedOut(t *testing.T) {
	c := schema.New()
	all := append(rightTypes(), fullCatalog()[:40]...)
	declareAll(t, c, all)
	whole, again := c.List(), c.List()
	slices.SortFunc(all, func(a, b api.Type) int { return strings.Compare(a.Name, b.Name) })
	for i := range all {
		found, _ := c.Find(all[i].Name)
		other, _ := c.Find(all[i].Name)
		spoil(&found)
		if v, e := c.Find(all[i].Name); !same(v, all[i]) || !same(other, all[i]) || e != api.OK {
			t.Errorf("what Find answered is another's: %+v, %+v", v, other)
		}
		spoil(&whole[i])
		if !sameList(again, all) || !sameList(c.List(), all) {
			t.Fatalf("what List answered is another's")
		}
		if !sameList(whole[i+1:], all[i+1:]) {
			t.Fatalf("two lists of one answer share memory")
		}
	}
	clear(whole[:cap(whole)])
	_ = append(whole[:0], api.Type{Name: "spoilt"})
	if !sameList(again, all) || !sameList(c.List(), all) {
		t.Errorf("what List answered is another's")
	}
	for _, u := range all {
		text, _ := schema.Print(u)
		a, _, _ := schema.Parse(text)
		b, _, _ := schema.Parse(text)
		spoil(&a)
		if d, _, e := schema.Parse(text); !same(b, u) || !same(d, u) || e != api.OK {
			t.Errorf("what Parse answered is another's: %+v", b)
		}
	}
}

// TestAlike: P0.5: the same calls answer the same, whatever is asked beside them.
func TestAlike(t *testing.T) {
	play := func() []any {
		c := schema.New()
		var out []any
		for _, u := range append(rightTypes(), fullCatalog()...) {
			e := c.Declare(u)
			text, e2 := schema.Print(u)
			v, at, e3 := schema.Parse(text)
			out = append(out, e, text, e2, v, at, e3, c.Check(api.Event{Type: u.Name, Time: 1}))
		}
		return append(out, c.List())
	}
	want := play()
	var wait sync.WaitGroup
	for range 8 {
		wait.Go(func() {
			if got := play(); !reflect.DeepEqual(got, want) {
				t.Error("the same calls answer another way")
			}
		})
	}
	wait.Wait()
}
