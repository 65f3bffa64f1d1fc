package engine

import (
	"slices"

	"tribunal/api"
)

// ownActs is actions in lists of their own.
func ownActs(l []api.Act) []api.Act {
	l = slices.Clone(l)
	for i := range l {
		l[i].E = ownExpr(l[i].E)
		l[i].Fills = slices.Clone(l[i].Fills)
		for k := range l[i].Fills {
			l[i].Fills[k].E = ownExpr(l[i].Fills[k].E)
		}
	}
	return l
}

// ownExpr is an expression with lists of its own.
func ownExpr(e api.Expr) api.Expr {
	e.L = slices.Clone(e.L)
	for i := range e.L {
		e.L[i] = ownExpr(e.L[i])
	}
	return e
}
