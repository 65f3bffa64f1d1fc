package expr

import (
	"iter"

	"tribunal/api"
	"tribunal/value"
)

// shaped tells whether e is a term alone, or an operation of two that are shaped, at most deep in all. Its terms may be wrong. An expression that stands in itself is too deep.
func shaped(e api.Expr, deep int) bool {
	if deep == 0 {
		return false
	}
	if e.Op == "" {
		return len(e.L) == 0
	}
	_, is := operations()[e.Op]
	return is && e.T == api.Term{} && len(e.L) == 2 && shaped(e.L[0], deep-1) && shaped(e.L[1], deep-1)
}

// may tells whether a term may be so. Facts' numbers and sets come by variables alone.
func may(t api.Term) bool {
	if t.Var != "" {
		return value.Name(t.Var) && t.V == api.Value{}
	}
	return value.Right(t.V) && t.V.Kind != api.Id && t.V.Kind != api.Set
}

// terms are those of a shaped expression, the first of both ahead.
func terms(e api.Expr) iter.Seq[api.Term] {
	return func(yield func(api.Term) bool) {
		tell(e, yield)
	}
}

// tell is false as soon as no more are asked for, so that the ones around it stop too.
func tell(e api.Expr, yield func(api.Term) bool) bool {
	if e.Op == "" {
		return yield(e.T)
	}
	return tell(e.L[0], yield) && tell(e.L[1], yield)
}
