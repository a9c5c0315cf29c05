package check_test

import (
	"slices"
	"strings"
	"testing"

	"refrain/api"
)

// said is a number that an expression may speak of, and how it does.
type said struct {
	text    string
	v       string // the variable
	place   int    // of its component
	negated bool
	iter    bool
	first   bool
}

// sayings are all of a pattern: SEQ(Trade a, Trade+ b[], !(Note n), Trade+ c[], !(Note m), Trade d).
func sayings() []said {
	out := []said{{text: "a.price", v: "a", place: 0}, {text: "n.price", v: "n", place: 2, negated: true}, {text: "m.time", v: "m", place: 4, negated: true}, {text: "d.time", v: "d", place: 5}}
	for i, v := range []string{"b", "c"} {
		for _, form := range slices.Concat(many, inMany) {
			out = append(out, said{text: strings.NewReplacer("V", v, "X", "price").Replace(form), v: v, place: 1 + 2*i, iter: strings.Contains(form, "i]") || strings.Contains(form, "i-1]"), first: strings.Contains(form, "first")})
		}
	}
	return out
}

// mayStand is what the document says of conditions, each sentence by itself.
func mayStand(list []said) bool {
	for _, x := range list {
		for _, y := range list {
			switch {
			case x.iter && y.iter && x.v != y.v:
				return false
			case x.iter && !y.iter && !(y.v == x.v && y.first) && !(!y.negated && y.place < x.place):
				return false
			case x.negated && y.iter:
				return false
			case x.negated && y.v != x.v && !(!y.negated && y.place < x.place):
				return false
			}
		}
	}
	return true
}

// plain is what the document says of outputs.
func plain(list []said) bool {
	return !slices.ContainsFunc(list, func(x said) bool { return x.iter || x.negated })
}

// TestMix: P8.3: each three of all that may be spoken of, in a condition and in an output.
func TestMix(t *testing.T) {
	q := pattern(t, "Trade a, Trade+ b[], !(Note n), Trade+ c[], !(Note m), Trade d")
	all := sayings()
	exprs := map[string]api.Expr{}
	for _, x := range all {
		exprs[x.text] = expr(t, x.text)
	}
	one := num(1)
	may, mayNot := 0, 0
	for _, x := range all {
		for _, y := range all {
			for _, z := range all {
				list := []said{x, y, z}
				ex, ey, ez := exprs[x.text], exprs[y.text], exprs[z.text]
				for i, cond := range []api.Expr{
					bin(api.OLt, bin(api.OMul, ex, ey), bin(api.OAdd, one, un(api.ONeg, ez))),
					bin(api.OOr, bin(api.OAnd, bin(api.OEq, ex, one), un(api.ONot, bin(api.OEq, one, ey))), bin(api.ONe, ez, ez)),
				} {
					want := api.Fault{}
					if !mayStand(list) {
						want = api.Fault{Err: api.ErrMix, Part: api.InWhere, Num: i}
						mayNot++
					} else {
						may++
					}
					q.Where = []api.Expr{bin(api.OEq, one, one), cond}[1-i:]
					askQuery(t, q, want)
					q.Where = nil
					q.Items[0].Expr = cond
					want = api.Fault{}
					if !plain(list) {
						want = api.Fault{Err: api.ErrMix, Part: api.InItems}
					}
					askQuery(t, q, want)
					q.Items[0].Expr = one
				}
			}
		}
	}
	if may < 2000 || mayNot < 2000 {
		t.Errorf("%d may be, %d may not", may, mayNot)
	}
}

// TestMixAmong: P8.3, P8.4: whether they may stand together is asked behind the walk, and ahead of what the whole is.
func TestMixAmong(t *testing.T) {
	q := pattern(t, "Trade a, Trade+ b[], !(Note n), Trade+ c[], Trade d")
	for _, x := range []struct {
		text string
		err  api.Errno
	}{
		{"b[i].price + c[i].price", api.ErrMix}, {"b[i].price = c[i].price AND z.z", api.ErrVar}, {"b[i].price = c[i].price AND b.price = 1", api.ErrUse}, {"(b[i].price = c[i].price) = 1", api.ErrKind},
		{"b[i].price", api.ErrBool}, {"n.sym", api.ErrBool}, {"b[i].price = c[i].none", api.ErrAttr}, {"n.price + d.price", api.ErrMix}, {"b[i].live", api.OK}, {"TRUE", api.OK},
	} {
		q.Where = []api.Expr{expr(t, x.text)}
		want := api.Fault{}
		if x.err != api.OK {
			want = api.Fault{Err: x.err, Part: api.InWhere}
		}
		askQuery(t, q, want)
	}
}
