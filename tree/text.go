package tree

import (
	"strconv"

	"refrain/api"
	"refrain/value"
)

// operation is how an operation is written: its sign, its level, and the least levels of Kids that stand in it without brackets.
type operation struct {
	sign   string
	level  int
	first  int
	second int
}

// operations are those of each number. (An operation leads from the left, where its first Kid may be of its own level.)
var operations = [...]operation{
	api.OOr:  {"OR", 1, 1, 2},
	api.OAnd: {"AND", 2, 2, 3},
	api.ONot: {"NOT", 3, 3, 0},
	api.OEq:  {"=", 4, 5, 5},
	api.ONe:  {"!=", 4, 5, 5},
	api.OLt:  {"<", 4, 5, 5},
	api.OLe:  {"<=", 4, 5, 5},
	api.OGt:  {">", 4, 5, 5},
	api.OGe:  {">=", 4, 5, 5},
	api.OAdd: {"+", 5, 5, 6},
	api.OSub: {"-", 5, 5, 6},
	api.OMul: {"*", 6, 6, 7},
	api.ONeg: {"-", 7, 7, 0},
}

// highest is the level of what is no operation.
const highest = 8

var functions = [...]string{api.FCount: "count", api.FSum: "sum", api.FMin: "min", api.FMax: "max"}

// marks stand behind a variable: of which events it speaks.
var marks = [...]string{
	api.AtOne:    "",
	api.AtCur:    "[i]",
	api.AtPrev:   "[i-1]",
	api.AtFirst:  "[first]",
	api.AtLast:   "[last]",
	api.AtAll:    "",
	api.AtBefore: "[..i-1]",
}

var strategies = [...]string{api.Any: "any", api.Next: "next", api.Strict: "strict"}

// writer writes a tree without a fault. It takes in no more than shows that the text is too long, so that a huge one is not made only to be thrown away.
type writer struct {
	text []byte
}

func (w *writer) tooLong() bool { return len(w.text) > api.MaxText }

// done is what has been written.
func (w *writer) done() (string, api.Errno) {
	if w.tooLong() {
		return "", api.ErrLong
	}
	return string(w.text), api.OK
}

func (w *writer) put(pieces ...string) {
	for _, piece := range pieces {
		if !w.tooLong() {
			w.text = append(w.text, piece...)
		}
	}
}

// comma stands ahead of the element of a list that has i others ahead of it.
func (w *writer) comma(i int) {
	if i > 0 {
		w.put(", ")
	}
}

func (w *writer) query(q api.Query) {
	w.put("PATTERN SEQ(")
	for i, c := range q.Comps {
		w.comma(i)
		w.comp(c)
	}
	w.put(")")
	if q.Part != "" {
		w.put(" PARTITION BY ", q.Part)
	}
	w.where(q)
	w.put(" WITHIN ", strconv.FormatInt(q.Within, 10), " RETURN ", q.Out, "(")
	for i, item := range q.Items {
		w.comma(i)
		w.put(item.Name, " = ")
		w.expr(item.Expr)
	}
	w.put(")")
}

func (w *writer) comp(c api.Comp) {
	switch {
	case c.Neg:
		w.put("!(", c.Type, " ", c.Var, ")")
	case c.Plus:
		w.put(c.Type, "+ ", c.Var, "[]")
	default:
		w.put(c.Type, " ", c.Var)
	}
}

// where writes the strategy and the conditions, if there is more to tell than that any events may be skipped.
func (w *writer) where(q api.Query) {
	bare := len(q.Equiv) == 0 && len(q.Where) == 0
	if bare && q.Strategy == api.Any {
		return
	}
	w.put(" WHERE ", strategies[q.Strategy])
	if bare {
		return
	}
	w.put(" { ")
	for i, attr := range q.Equiv {
		w.comma(i)
		w.put("[", attr, "]")
	}
	for i, cond := range q.Where {
		w.comma(len(q.Equiv) + i)
		w.expr(cond)
	}
	w.put(" }")
}

func (w *writer) expr(e api.Expr) {
	switch e.Kind {
	case api.ELit:
		s, _ := value.Show(e.Val)
		w.put(s)
	case api.ERef:
		w.put(e.Var, marks[e.At], ".", e.Attr)
	case api.EAgg:
		w.put(functions[e.Op], "(", e.Var, marks[e.At])
		if e.Op != api.FCount {
			w.put(".", e.Attr)
		}
		w.put(")")
	case api.EUn:
		w.unary(e.Op, e.Kids[0])
	case api.EBin:
		op := operations[e.Op]
		w.kid(e.Kids[0], op.first)
		w.put(" ", op.sign, " ")
		w.kid(e.Kids[1], op.second)
	}
}

func (w *writer) unary(op int, kid api.Expr) {
	w.put(operations[op].sign)
	// Two minus signs side by side would begin a comment.
	if op == api.ONot || kid.Kind == api.EUn && kid.Op == api.ONeg {
		w.put(" ")
	}
	w.kid(kid, operations[op].first)
}

// kid writes a Kid, in brackets if its level is below the least one.
func (w *writer) kid(e api.Expr, least int) {
	if level(e) >= least {
		w.expr(e)
		return
	}
	w.put("(")
	w.expr(e)
	w.put(")")
}

func level(e api.Expr) int {
	if e.Kind == api.EUn || e.Kind == api.EBin {
		return operations[e.Op].level
	}
	return highest
}
