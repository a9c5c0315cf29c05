package value

import "refrain/api"

// Sets of kinds.
const (
	numbers = 1 << api.KInt
	texts   = 1 << api.KStr
	truths  = 1 << api.KBool
)

// What operations do.
const (
	reckons  = iota // a number from numbers
	compares        // a truth value from the order of two values
	joins           // a truth value from truth values
)

// rule is what an operation wants, and what it does. Of several values all are of one kind.
type rule struct {
	args  int // how many values
	kinds int // the set of their kinds
	does  int
}

// rules stand by the operation's number; numbers without an operation want no values.
var rules = [...]rule{
	api.ONeg: {1, numbers, reckons},
	api.ONot: {1, truths, joins},
	api.OAdd: {2, numbers, reckons},
	api.OSub: {2, numbers, reckons},
	api.OMul: {2, numbers, reckons},
	api.OEq:  {2, numbers | texts | truths, compares},
	api.ONe:  {2, numbers | texts | truths, compares},
	api.OLt:  {2, numbers | texts, compares},
	api.OLe:  {2, numbers | texts, compares},
	api.OGt:  {2, numbers | texts, compares},
	api.OGe:  {2, numbers | texts, compares},
	api.OAnd: {2, truths, joins},
	api.OOr:  {2, truths, joins},
}

// Unary carries out an operation on one value.
func Unary(op int, v api.Value) (api.Value, api.Errno) {
	if e := refusal(op, v); e != api.OK {
		return api.Value{}, e
	}
	return carryOut(op, api.Value{}, v), api.OK
}

// Binary carries out an operation on two values.
func Binary(op int, a, b api.Value) (api.Value, api.Errno) {
	if e := refusal(op, a, b); e != api.OK {
		return api.Value{}, e
	}
	return carryOut(op, a, b), api.OK
}

// refusal is why the operation can't be carried out on these values, or OK.
func refusal(op int, args ...api.Value) api.Errno {
	if op < 0 || op >= len(rules) || rules[op].args != len(args) {
		return api.ErrOp
	}
	for _, v := range args {
		if !Valid(v) {
			return api.ErrValue
		}
	}
	for _, v := range args {
		if rules[op].kinds&(1<<v.Kind) == 0 || v.Kind != args[0].Kind {
			return api.ErrKind
		}
	}
	return api.OK
}

// carryOut asks for what refusal lets pass; an operation on one value has it as b, and a zero a.
func carryOut(op int, a, b api.Value) api.Value {
	switch rules[op].does {
	case reckons:
		return number(reckon(op, a.Int, b.Int))
	case compares:
		return truth(holds(op, Compare(a, b)))
	}
	return truth(join(op, a.Bool, b.Bool))
}

func reckon(op int, a, b int64) int64 {
	switch op {
	case api.ONeg, api.OSub:
		b = -b // wraps for the least number, and the sum wraps back; ONeg has a = 0
		fallthrough
	case api.OAdd:
		return a + b
	}
	return a * b
}

// holds tells whether the order of two values is one that the operation asks for.
func holds(op, order int) bool {
	yes, turned := false, false
	switch op {
	case api.ONe:
		turned = true
		fallthrough
	case api.OEq:
		yes = order == 0
	case api.OLe:
		yes = order == 0
		fallthrough
	case api.OLt:
		yes = yes || order < 0
	case api.OGe:
		yes = order == 0
		fallthrough
	case api.OGt:
		yes = yes || order > 0
	}
	return yes != turned
}

func join(op int, a, b bool) bool {
	switch op {
	case api.ONot:
		return !b
	case api.OAnd:
		return a && b
	}
	return a || b
}
