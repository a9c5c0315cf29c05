package parse

import (
	"refrain/api"
	"refrain/tree"
)

// strategies are the words for them.
var strategies = [...]string{api.Any: "any", api.Next: "next", api.Strict: "strict"}

func (r *reader) query() (q api.Query, spots api.Spots) {
	r.want("PATTERN", "SEQ", "(")
	r.list(func() {
		spots.Comps = append(spots.Comps, r.at())
		q.Comps = append(q.Comps, r.comp())
	})
	r.want(")")
	if r.skip("PARTITION") {
		r.want("BY")
		spots.Part, q.Part = r.at(), r.name()
	}
	q.Strategy = api.Any
	if r.skip("WHERE") {
		q.Strategy = r.strategy()
		if r.skip("{") {
			r.list(func() { r.cond(&q, &spots) })
			r.want("}")
		}
	}
	r.want("WITHIN")
	spots.Within, q.Within = r.at(), r.number()
	r.want("RETURN")
	if !r.sees("(") {
		spots.Out, q.Out = r.at(), r.name()
	}
	r.want("(")
	r.list(func() {
		spots.Items = append(spots.Items, r.at())
		q.Items = append(q.Items, r.item())
	})
	r.want(")")
	return q, spots
}

func (r *reader) comp() api.Comp {
	var c api.Comp
	if r.skip("!") {
		r.want("(")
		c.Neg, c.Type, c.Var = true, r.name(), r.name()
		r.want(")")
		return c
	}
	c.Type = r.name()
	c.Plus = r.skip("+")
	c.Var = r.name()
	if c.Plus {
		r.want("[", "]")
	}
	return c
}

func (r *reader) strategy() int {
	for strategy := api.Any; strategy <= api.Strict; strategy++ {
		if r.skip(strategies[strategy]) {
			return strategy
		}
	}
	r.unwanted()
	return 0
}

// cond reads a condition: an equivalence, or any other one.
func (r *reader) cond(q *api.Query, spots *api.Spots) {
	at := r.at()
	if r.skip("[") {
		spots.Equiv = append(spots.Equiv, at)
		q.Equiv = append(q.Equiv, r.name())
		r.want("]")
		return
	}
	spots.Where = append(spots.Where, at)
	q.Where = append(q.Where, r.bounded())
}

func (r *reader) item() api.Item {
	name := r.name()
	r.want("=")
	return api.Item{Name: name, Expr: r.bounded()}
}

// bounded reads an expression that is no part of another one: only of such a one the size is asked.
func (r *reader) bounded() api.Expr {
	at := r.at()
	e := r.expr()
	nodes, depth := tree.Size(e)
	switch {
	case nodes > api.MaxNodes:
		panic(fault{api.ErrLong, at})
	case depth > api.MaxDepth:
		panic(fault{api.ErrDeep, at})
	}
	return e
}
