package parse

import "refrain/api"

// Levels of the operations on two, the loosest first.
const (
	orLevel = iota
	andLevel
	relLevel
	sumLevel
	productLevel
)

// level is an operation's sign, its number, and how tightly it binds.
type level struct {
	sign  string
	op    int
	level int
}

var levels = [...]level{
	{"OR", api.OOr, orLevel},
	{"AND", api.OAnd, andLevel},
	{"=", api.OEq, relLevel},
	{"!=", api.ONe, relLevel},
	{"<", api.OLt, relLevel},
	{"<=", api.OLe, relLevel},
	{">", api.OGt, relLevel},
	{">=", api.OGe, relLevel},
	{"+", api.OAdd, sumLevel},
	{"-", api.OSub, sumLevel},
	{"*", api.OMul, productLevel},
}

// functions are their names.
var functions = [...]string{api.FCount: "count", api.FSum: "sum", api.FMin: "min", api.FMax: "max"}

func (r *reader) expr() api.Expr { return r.chain(orLevel, r.and) }

func (r *reader) and() api.Expr { return r.chain(andLevel, r.not) }

func (r *reader) not() api.Expr {
	if r.skip("NOT") {
		return operation(api.ONot, r.not())
	}
	return r.rel()
}

func (r *reader) rel() api.Expr {
	left := r.sum()
	if op := r.operator(relLevel); op != 0 {
		return operation(op, left, r.sum())
	}
	return left
}

func (r *reader) sum() api.Expr { return r.chain(sumLevel, r.product) }

func (r *reader) product() api.Expr { return r.chain(productLevel, r.sign) }

func (r *reader) sign() api.Expr {
	if r.skip("-") {
		return operation(api.ONeg, r.sign())
	}
	return r.prime()
}

// chain reads operands with the operations of a level between them, which lead from the left.
func (r *reader) chain(level int, operand func() api.Expr) api.Expr {
	left := operand()
	for op := r.operator(level); op != 0; op = r.operator(level) {
		left = operation(op, left, operand())
	}
	return left
}

// operator goes behind the sign of an operation of a level, if it is the next token. 0: it is not.
func (r *reader) operator(level int) int {
	for _, l := range levels {
		if l.level == level && r.skip(l.sign) {
			return l.op
		}
	}
	return 0
}

// operation is an operation on one or two.
func operation(op int, kids ...api.Expr) api.Expr {
	kind := api.EUn
	if len(kids) == 2 {
		kind = api.EBin
	}
	return api.Expr{Kind: kind, Op: op, Kids: kids}
}

func (r *reader) prime() api.Expr {
	switch {
	case r.skip("("):
		e := r.expr()
		r.want(")")
		return e
	case r.skip("TRUE"):
		return literal(api.Value{Kind: api.KBool, Bool: true})
	case r.skip("FALSE"):
		return literal(api.Value{Kind: api.KBool})
	case r.toks[0].Kind == api.TInt:
		return literal(api.Value{Kind: api.KInt, Int: r.number()})
	case r.toks[0].Kind == api.TStr:
		return literal(api.Value{Kind: api.KStr, Str: r.take(api.TStr)})
	}
	name := r.name()
	// A function's name is a variable's name as well: what follows tells.
	if fn := function(name); fn != 0 && r.skip("(") {
		return r.agg(fn)
	}
	return r.ref(name)
}

func literal(v api.Value) api.Expr { return api.Expr{Kind: api.ELit, Val: v} }

// function is the number of the function of a name. 0: there is none.
func function(name string) int {
	for fn := api.FCount; fn <= api.FMax; fn++ {
		if functions[fn] == name {
			return fn
		}
	}
	return 0
}

// agg reads what stands behind a function's name and its bracket.
func (r *reader) agg(fn int) api.Expr {
	e := api.Expr{Kind: api.EAgg, Op: fn, Var: r.name(), At: r.before()}
	if fn != api.FCount {
		r.want(".")
		e.Attr = r.name()
	}
	r.want(")")
	return e
}

// before reads which events of a variable a function is of.
func (r *reader) before() int {
	if !r.skip("[") {
		return api.AtAll
	}
	r.want("..", "i", "-")
	r.one()
	r.want("]")
	return api.AtBefore
}

// ref reads what stands behind the variable of a reference.
func (r *reader) ref(name string) api.Expr {
	e := api.Expr{Kind: api.ERef, Var: name, At: api.AtOne}
	if r.skip("[") {
		e.At = r.place()
		r.want("]")
	}
	r.want(".")
	e.Attr = r.name()
	return e
}

func (r *reader) place() int {
	switch {
	case r.skip("first"):
		return api.AtFirst
	case r.skip("last"):
		return api.AtLast
	}
	r.want("i")
	if !r.skip("-") {
		return api.AtCur
	}
	r.one()
	return api.AtPrev
}

// one reads the only number that may stand in a place.
func (r *reader) one() {
	if r.toks[0].Text != "1" {
		r.unwanted()
	}
	r.take(api.TInt)
}
