package check

import (
	"slices"

	"tribunal/api"
	"tribunal/expr"
)

// kind is the type of an expression that is right, and whose variables are known.
func (k *known) kind(e api.Expr) int {
	if e.Op != "" {
		return api.Num
	}
	if e.T.Var == "" {
		return e.T.V.Kind
	}
	v, _ := k.find(e.T.Var)
	return v.Type
}

// typed is the error of an expression's type.
func (k *known) typed(e api.Expr) api.Errno {
	return first(
		unless(api.ErrForm, func() bool { return expr.Right(e) }),
		unless(api.ErrNone, func() bool {
			return !slices.ContainsFunc(expr.Vars(e), func(name string) bool { return !k.has(name) })
		}),
		unless(api.ErrType, func() bool { return e.Op == "" || k.numbers(e.L...) }),
	)
}

// numbers tells whether expressions are of numbers alone, and so are those in them.
func (k *known) numbers(l ...api.Expr) bool {
	for _, e := range l {
		if k.kind(e) != api.Num || !k.numbers(e.L...) {
			return false
		}
	}
	return true
}

// suits is the error of an expression that is to have a type.
func (k *known) suits(e api.Expr, kind int) api.Errno {
	return first(
		func() api.Errno { return k.typed(e) },
		unless(api.ErrType, func() bool { return k.kind(e) == kind }),
	)
}

// template tells whether there is one of that name.
func (k *known) template(name string) bool {
	_, is := k.schema.Find(name)
	return is
}

// pattern is the error of a pattern, whose variables come to be known.
func (k *known) pattern(p api.Pat) api.Errno {
	var ahead []string
	return first(
		unless(api.ErrNone, func() bool { return k.template(p.Tmpl) }),
		func() api.Errno {
			return each(p.Slots, func(s api.Slot) api.Errno {
				kind := k.schema.Type(p.Tmpl, s.Name)
				if kind == 0 || slices.Contains(ahead, s.Name) {
					return api.ErrArg
				}
				ahead = append(ahead, s.Name)
				return k.term(s.T, kind)
			})
		},
	)
}

// term is the error of a pattern's term at a slot of a type: a variable that is not known comes to be, of that type.
func (k *known) term(t api.Term, kind int) api.Errno {
	e := api.Expr{T: t}
	if expr.Right(e) && t.Var != "" && !k.has(t.Var) {
		return k.come(api.Known{Name: t.Var, Type: kind})
	}
	return k.suits(e, kind)
}
