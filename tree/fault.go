package tree

import (
	"refrain/api"
	"refrain/schema"
	"refrain/value"
)

// queryFault is the first fault of a query, but for the length of its text.
func queryFault(q api.Query) api.Errno {
	if !rightComps(q.Comps) || !rightHead(q) {
		return api.ErrTree
	}
	for _, cond := range q.Where {
		if e := exprFault(cond); e != api.OK {
			return e
		}
	}
	if q.Within < 0 || q.Within > api.MaxTime || !nameOrNone(q.Out) || len(q.Items) == 0 {
		return api.ErrTree
	}
	for _, item := range q.Items {
		if !schema.Name(item.Name) {
			return api.ErrTree
		}
		if e := exprFault(item.Expr); e != api.OK {
			return e
		}
	}
	return api.OK
}

func rightComps(comps []api.Comp) bool {
	for _, c := range comps {
		if c.Neg && c.Plus || !schema.Name(c.Type) || !schema.Name(c.Var) {
			return false
		}
	}
	return len(comps) > 0
}

// rightHead tells whether that may be which stands behind a query's components and ahead of its conditions.
func rightHead(q api.Query) bool {
	for _, attr := range q.Equiv {
		if !schema.Name(attr) {
			return false
		}
	}
	return nameOrNone(q.Part) && q.Strategy >= api.Any && q.Strategy <= api.Strict
}

func nameOrNone(s string) bool { return s == "" || schema.Name(s) }

// exprFault is an expression's fault. How deep it is is looked at ahead of all that goes down it by recursion.
func exprFault(e api.Expr) api.Errno {
	count := 0
	for depth := range nodes(e, kids) {
		if depth > api.MaxDepth {
			return api.ErrDeep
		}
		count++
	}
	switch {
	case count > api.MaxNodes:
		return api.ErrLong
	case !right(e):
		return api.ErrTree
	}
	return api.OK
}

// right tells whether the form of an expression is right.
func right(e api.Expr) bool {
	for _, kid := range e.Kids {
		if !right(kid) {
			return false
		}
	}
	return rightNode(e)
}

// rightNode tells whether the fields of a node are right, whatever its Kids are.
func rightNode(e api.Expr) bool {
	ok, rest := false, e
	switch e.Kind {
	case api.ELit:
		ok = value.Valid(e.Val) && e.Val.Int >= 0
		rest.Val = api.Value{}
	case api.ERef:
		ok = rightRef(e)
		rest.Var, rest.At, rest.Attr = "", 0, ""
	case api.EAgg:
		ok = rightAgg(e)
		rest.Op, rest.Var, rest.At, rest.Attr = 0, "", 0, ""
	case api.EUn:
		ok = (e.Op == api.ONeg || e.Op == api.ONot) && len(e.Kids) == 1
		rest.Op, rest.Kids = 0, nil
	case api.EBin:
		ok = e.Op >= api.OAdd && e.Op <= api.OOr && len(e.Kids) == 2
		rest.Op, rest.Kids = 0, nil
	}
	// What is left when the fields are taken away that its kind speaks of must be zero.
	return ok && alike(&rest, &api.Expr{Kind: e.Kind})
}

func rightRef(e api.Expr) bool {
	return schema.Name(e.Var) && schema.Name(e.Attr) && e.At >= api.AtOne && e.At <= api.AtLast
}

func rightAgg(e api.Expr) bool {
	attr := e.Attr == ""
	if e.Op != api.FCount {
		attr = schema.Name(e.Attr)
	}
	return attr && schema.Name(e.Var) && e.Op >= api.FCount && e.Op <= api.FMax && (e.At == api.AtAll || e.At == api.AtBefore)
}
