package tree_test

import (
	"slices"
	"strconv"

	"refrain/api"
	"refrain/token"
)

// reader reads a text by the grammar of doc/00-meaning.md, rule by rule. It panics with errText at a text that is none.
type reader struct {
	toks []api.Tok
}

const errText = "no text of the grammar"

// read reads a whole text by a rule; false: it is none.
func read[T any](text string, rule func(*reader) T) (tree T, ok bool) {
	toks, _, e := token.Scan(text)
	if e != api.OK {
		return tree, false
	}
	defer func() {
		if r := recover(); r != nil && r != errText {
			panic(r)
		}
	}()
	r := &reader{toks}
	x := rule(r)
	r.need(r.toks[0].Kind == api.TEnd)
	return x, true
}

func (r *reader) need(ok bool) {
	if !ok {
		panic(errText)
	}
}

func (r *reader) next() api.Tok {
	t := r.toks[0]
	r.need(t.Kind != api.TEnd)
	r.toks = r.toks[1:]
	return t
}

// sees tells whether these signs or words come next.
func (r *reader) sees(texts ...string) bool {
	for i, s := range texts {
		if i >= len(r.toks) || r.toks[i].Text != s || r.toks[i].Kind == api.TStr {
			return false
		}
	}
	return true
}

// has takes these signs or words, if they come next.
func (r *reader) has(texts ...string) bool {
	if !r.sees(texts...) {
		return false
	}
	r.toks = r.toks[len(texts):]
	return true
}

func (r *reader) want(texts ...string) { r.need(r.has(texts...)) }

func (r *reader) name() string {
	t := r.next()
	r.need(t.Kind == api.TWord && !token.Word(t.Text))
	return t.Text
}

func (r *reader) number() int64 {
	t := r.next()
	r.need(t.Kind == api.TInt)
	n, err := strconv.ParseInt(t.Text, 10, 64)
	r.need(err == nil)
	return n
}

// list reads one or more, with commas between them, up to a sign.
func (r *reader) list(end string, one func()) {
	one()
	for r.has(",") {
		one()
	}
	r.want(end)
}

func (r *reader) query() api.Query {
	q := api.Query{Strategy: api.Any}
	r.want("PATTERN", "SEQ", "(")
	r.list(")", func() { q.Comps = append(q.Comps, r.comp()) })
	if r.has("PARTITION", "BY") {
		q.Part = r.name()
	}
	if r.has("WHERE") {
		q.Strategy = map[string]int{"any": api.Any, "next": api.Next, "strict": api.Strict}[r.name()]
		r.need(q.Strategy > 0)
		if r.has("{") {
			r.list("}", func() {
				if r.has("[") {
					q.Equiv = append(q.Equiv, r.name())
					r.want("]")
					return
				}
				q.Where = append(q.Where, r.or())
			})
		}
	}
	r.want("WITHIN")
	q.Within = r.number()
	r.want("RETURN")
	if !r.sees("(") {
		q.Out = r.name()
	}
	r.want("(")
	r.list(")", func() {
		name := r.name()
		r.want("=")
		q.Items = append(q.Items, api.Item{Name: name, Expr: r.or()})
	})
	return q
}

func (r *reader) comp() api.Comp {
	if r.has("!", "(") {
		c := api.Comp{Neg: true, Type: r.name(), Var: r.name()}
		r.want(")")
		return c
	}
	c := api.Comp{Type: r.name(), Plus: r.has("+")}
	c.Var = r.name()
	if c.Plus {
		r.want("[", "]")
	}
	return c
}

// opOf is the operation with which the text goes on, if it is one of these.
func (r *reader) opOf(ops map[string]int) int {
	for s, op := range ops {
		if r.has(s) {
			return op
		}
	}
	return 0
}

// row reads operations on two that lead from the left.
func (r *reader) row(part func() api.Expr, ops map[string]int) api.Expr {
	e := part()
	for op := r.opOf(ops); op > 0; op = r.opOf(ops) {
		e = bin(op, e, part())
	}
	return e
}

func (r *reader) or() api.Expr  { return r.row(r.and, map[string]int{"OR": api.OOr}) }
func (r *reader) and() api.Expr { return r.row(r.not, map[string]int{"AND": api.OAnd}) }

func (r *reader) not() api.Expr {
	if r.has("NOT") {
		return un(api.ONot, r.not())
	}
	e := r.sum()
	if op := r.opOf(map[string]int{"=": api.OEq, "!=": api.ONe, "<": api.OLt, "<=": api.OLe, ">": api.OGt, ">=": api.OGe}); op > 0 {
		e = bin(op, e, r.sum())
	}
	return e
}

func (r *reader) sum() api.Expr {
	return r.row(r.product, map[string]int{"+": api.OAdd, "-": api.OSub})
}

func (r *reader) product() api.Expr { return r.row(r.sign, map[string]int{"*": api.OMul}) }

func (r *reader) sign() api.Expr {
	if r.has("-") {
		return un(api.ONeg, r.sign())
	}
	return r.prime()
}

func (r *reader) prime() api.Expr {
	switch t := r.toks[0]; {
	case t.Kind == api.TInt:
		return num(r.number())
	case t.Kind == api.TStr:
		return str(r.next().Text)
	case r.has("TRUE"):
		return truth(true)
	case r.has("FALSE"):
		return truth(false)
	case r.has("("):
		e := r.or()
		r.want(")")
		return e
	}
	name := r.name()
	if fn := slices.Index([]string{"", "count", "sum", "min", "max"}, name); fn > 0 && r.has("(") {
		return r.function(fn)
	}
	at := api.AtOne
	if r.has("[") {
		at = r.place()
		r.want("]")
	}
	r.want(".")
	return ref(name, at, r.name())
}

func (r *reader) place() int {
	switch {
	case r.has("i", "-", "1"):
		return api.AtPrev
	case r.has("i"):
		return api.AtCur
	case r.has("first"):
		return api.AtFirst
	}
	r.want("last")
	return api.AtLast
}

func (r *reader) function(fn int) api.Expr {
	e := agg(fn, r.name(), api.AtAll, "")
	if r.has("[", "..", "i", "-", "1", "]") {
		e.At = api.AtBefore
	}
	if fn != api.FCount {
		r.want(".")
		e.Attr = r.name()
	}
	r.want(")")
	return e
}

// spaced is an expression's text with its blanks where the document has them, and nowhere else.
func spaced(text string) string {
	toks, _, _ := token.Scan(text)
	out, inside := "", false
	behind := "(" // what the token ahead is: an operand's end, a sign between two, a sign ahead of one, or a bracket
	for _, t := range toks[:len(toks)-1] {
		s, _ := token.Spell(t)
		is := "operand"
		switch {
		case t.Kind == api.TStr || t.Kind == api.TInt || inside && t.Text != "]":
		case t.Text == "AND" || t.Text == "OR" || t.Kind == api.TSign && slices.Contains([]string{"+", "*", "=", "!=", "<", "<=", ">", ">="}, t.Text) || t.Text == "-" && behind == "operand":
			is = "between"
		case t.Text == "NOT" || t.Text == "-":
			is = s
		case t.Text == "(":
			is = s
		case t.Text == "[":
			inside = true
		case t.Text == "]":
			inside = false
		}
		if is == "between" || behind == "between" || behind == "NOT" || is == "-" && behind == "-" {
			out += " "
		}
		out, behind = out+s, is
	}
	return out
}

// without are the texts that an expression's text becomes without one of its pairs of brackets (but those of functions).
func without(text string) []string {
	var out []string
	var open []int // places of the brackets that are open; -1: of a function
	toks, _, _ := token.Scan(text)
	for i, t := range toks {
		switch {
		case t.Kind == api.TStr:
		case t.Text == "(" && i > 0 && slices.Contains([]string{"count", "sum", "min", "max"}, toks[i-1].Text):
			open = append(open, -1)
		case t.Text == "(":
			open = append(open, t.At)
		case t.Text == ")":
			from := open[len(open)-1]
			open = open[:len(open)-1]
			if from >= 0 {
				out = append(out, text[:from]+" "+text[from+1:t.At]+" "+text[t.At+1:])
			}
		}
	}
	return out
}
