package tree

import (
	"iter"

	"refrain/api"
)

// nodes yields an expression's nodes from the left, each with its depth and ahead of those that below tells of it. They are not found by recursion, since a tree may be deeper than calls can be nested.
func nodes(root api.Expr, below func(*api.Expr) []api.Expr) iter.Seq2[int, *api.Expr] {
	return func(yield func(int, *api.Expr) bool) {
		// Of each row of Kids that has been begun, what has not been yielded yet.
		rows := [][]api.Expr{{root}}
		for len(rows) > 0 {
			depth := len(rows)
			row := rows[depth-1]
			if len(row) == 0 {
				rows = rows[:depth-1]
				continue
			}
			rows[depth-1] = row[1:]
			if !yield(depth, &row[0]) {
				return
			}
			rows = append(rows, below(&row[0]))
		}
	}
}

// kids are all Kids of a node, whatever its Kind is.
func kids(e *api.Expr) []api.Expr { return e.Kids }

// operands are the Kids of a node that is made of them: none of what speaks for itself, whatever Kids it has.
func operands(e *api.Expr) []api.Expr {
	switch e.Kind {
	case api.ELit, api.ERef, api.EAgg:
		return nil
	}
	return e.Kids
}

// alike tells whether two nodes are the same but for what their Kids are.
func alike(a, b *api.Expr) bool {
	return a.Kind == b.Kind && a.Op == b.Op && a.Val == b.Val && a.Var == b.Var && a.At == b.At && a.Attr == b.Attr && len(a.Kids) == len(b.Kids)
}
