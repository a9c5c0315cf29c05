package check

import (
	"refrain/api"
	"refrain/schema"
	"refrain/tree"
	"refrain/value"
)

// isTree tells whether an expression is a tree.
func isTree(e api.Expr) bool {
	// Size goes through all of what it is asked about: only what is known to end soon may come to it.
	if left := formed(e, api.MaxNodes); left < 0 {
		return false
	}
	_, depth := tree.Size(e)
	return depth <= api.MaxDepth
}

// formed tells how many of some nodes an expression leaves over whose form is right. Below 0: there were too few of them, or its form is not right.
func formed(e api.Expr, nodes int) int {
	if nodes--; nodes < 0 || !rightNode(e) {
		return -1
	}
	for _, kid := range e.Kids {
		if nodes = formed(kid, nodes); nodes < 0 {
			return -1
		}
	}
	return nodes
}

// rightNode tells whether the form of a node is right, whatever stands below it.
func rightNode(e api.Expr) bool {
	bare := e.Val == api.Value{}
	free := e.Var == "" && e.At == 0 && e.Attr == ""
	switch e.Kind {
	case api.ELit:
		return value.Valid(e.Val) && e.Val.Int >= 0 && e.Op == 0 && free && len(e.Kids) == 0
	case api.ERef:
		return bare && e.Op == 0 && schema.Name(e.Var) && schema.Name(e.Attr) && e.At >= api.AtOne && e.At <= api.AtLast && len(e.Kids) == 0
	case api.EAgg:
		return bare && rightAgg(e) && len(e.Kids) == 0
	case api.EUn:
		return bare && free && (e.Op == api.ONeg || e.Op == api.ONot) && len(e.Kids) == 1
	case api.EBin:
		return bare && free && e.Op >= api.OAdd && e.Op <= api.OOr && len(e.Kids) == 2
	}
	return false
}

func rightAgg(e api.Expr) bool {
	if !schema.Name(e.Var) || e.At != api.AtAll && e.At != api.AtBefore {
		return false
	}
	switch e.Op {
	case api.FCount:
		return e.Attr == ""
	case api.FSum, api.FMin, api.FMax:
		return schema.Name(e.Attr)
	}
	return false
}
