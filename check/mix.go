package check

import "refrain/api"

// each tells whether all references and functions of a tree are so. Behind the first one that is not it asks no more.
func each(e api.Expr, so func(api.Expr) bool) bool {
	if e.Kind == api.ERef || e.Kind == api.EAgg {
		return so(e)
	}
	for _, kid := range e.Kids {
		if !each(kid, so) {
			return false
		}
	}
	return true
}

func iterating(r api.Expr) bool {
	return r.At == api.AtCur || r.At == api.AtPrev || r.At == api.AtBefore
}

func (c *checker) negated(r api.Expr) bool { return c.q.Comps[c.places[r.Var]].Neg }

// plain tells whether a reference hangs on no event but those that are bound.
func (c *checker) plain(r api.Expr) bool { return !iterating(r) && !c.negated(r) }

// inOutput tells whether what an output speaks of may stand in it.
func (c *checker) inOutput(e api.Expr) bool { return each(e, c.plain) }

// inCond tells whether what a condition speaks of may stand in it together. One reference that is not plain tells for all others where they may be.
func (c *checker) inCond(e api.Expr) bool {
	var first api.Expr
	plain := each(e, func(r api.Expr) bool {
		first = r
		return c.plain(r)
	})
	return plain || each(e, func(r api.Expr) bool {
		if r.Var == first.Var {
			return c.negated(r) || iterating(r) || r.At == api.AtFirst
		}
		return c.plain(r) && c.places[r.Var] < c.places[first.Var]
	})
}
