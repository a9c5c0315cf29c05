package check

import "refrain/api"

// worth is the kind of an expression, or what is wrong with it: it is no tree, or its walk has a fault.
func (c *checker) worth(e api.Expr) (int, api.Errno) {
	if !isTree(e) {
		return 0, api.ErrTree
	}
	return c.walk(e)
}

// walk goes through a tree from the left, operands ahead of their operation.
func (c *checker) walk(e api.Expr) (int, api.Errno) {
	switch e.Kind {
	case api.ELit:
		return e.Val.Kind, api.OK
	case api.ERef, api.EAgg:
		return c.spoken(e)
	}
	kinds := [2]int{}
	for i, kid := range e.Kids {
		kind, err := c.walk(kid)
		if err != api.OK {
			return 0, err
		}
		kinds[i] = kind
	}
	kind := 0
	if e.Kind == api.EUn {
		kind = unaryKind(e.Op, kinds[0])
	} else {
		kind = binaryKind(e.Op, kinds[0], kinds[1])
	}
	if kind == 0 {
		return 0, api.ErrKind
	}
	return kind, api.OK
}

// spoken is the kind of a reference or a function.
func (c *checker) spoken(e api.Expr) (int, api.Errno) {
	place, there := c.places[e.Var]
	if !there {
		return 0, api.ErrVar
	}
	comp := c.q.Comps[place]
	t, there := c.findType(comp.Type)
	if !there {
		return 0, api.ErrType
	}
	if many := comp.Plus && !comp.Neg; many != (e.At != api.AtOne) {
		return 0, api.ErrUse
	}
	if e.Attr == api.TimeAttr || e.Kind == api.EAgg && e.Op == api.FCount {
		return api.KInt, api.OK
	}
	kind, err := attrKind(t, e.Attr)
	if err == api.OK && e.Kind == api.EAgg && kind != api.KInt {
		return 0, api.ErrKind
	}
	return kind, err
}

// unaryKind is the kind of an operation on one. 0: it wants another operand.
func unaryKind(op, kind int) int {
	if op == api.ONeg && kind == api.KInt || op == api.ONot && kind == api.KBool {
		return kind
	}
	return 0
}

// binaryKind is the kind of an operation on two. 0: it wants other operands.
func binaryKind(op, left, right int) int {
	if left != right {
		return 0
	}
	wanted, kind := true, api.KBool
	switch op {
	case api.OAdd, api.OSub, api.OMul:
		wanted, kind = left == api.KInt, api.KInt
	case api.OLt, api.OLe, api.OGt, api.OGe:
		wanted = left != api.KBool
	case api.OAnd, api.OOr:
		wanted = left == api.KBool
	}
	if !wanted {
		return 0
	}
	return kind
}
