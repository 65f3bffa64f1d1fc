package check

import (
	"tribunal/api"
	"tribunal/fold"
	"tribunal/value"
)

// conds is the first error of conditions that stand in so many others.
func (k *known) conds(deep int, l ...api.Cond) api.Errno {
	if len(l) > api.MaxConds {
		return api.ErrTooMany
	}
	return each(l, func(c api.Cond) api.Errno { return k.cond(deep, c) })
}

func (k *known) cond(deep int, c api.Cond) api.Errno {
	if !ownCond(c) {
		return api.ErrForm
	}
	switch c.Kind {
	case api.CondPat:
		return k.present(c)
	case api.CondNot:
		return k.missing(c)
	case api.CondIf:
		return k.test(c)
	}
	return k.let(deep, c)
}

// ownCond tells whether a condition is of a kind, and has nothing that is no part of it.
func ownCond(c api.Cond) bool {
	switch c.Kind {
	case api.CondPat:
		c.As, c.Pat = "", api.Pat{}
	case api.CondNot:
		c.Pat = api.Pat{}
	case api.CondIf:
		c.Op, c.A, c.B = "", api.Expr{}, api.Expr{}
	case api.CondLet:
		c.Var, c.Fold, c.Arg, c.By, c.Over = "", "", "", nil, nil
	default:
		return false
	}
	return empty(c.As, c.Pat.Tmpl, c.Op, c.Var, c.Fold, c.Arg) && noExprs(c.A, c.B) && len(c.Pat.Slots)+len(c.By)+len(c.Over) == 0
}

// empty tells whether nothing stands in any of some texts.
func empty(l ...string) bool {
	for _, s := range l {
		if s != "" {
			return false
		}
	}
	return true
}

// noExprs tells whether nothing stands in any of some expressions.
func noExprs(l ...api.Expr) bool {
	for _, e := range l {
		if e.Op != "" || e.T != (api.Term{}) || len(e.L) > 0 {
			return false
		}
	}
	return true
}

// present is the error of a pattern of which there is to be a fact.
func (k *known) present(c api.Cond) api.Errno {
	return first(
		func() api.Errno { return k.pattern(c.Pat) },
		unless(api.ErrForm, func() bool { return c.As == "" || value.Name(c.As) }),
		func() api.Errno {
			if c.As == "" {
				return api.OK
			}
			return k.come(api.Known{Name: c.As, Type: api.Id, Tmpl: c.Pat.Tmpl})
		},
	)
}

// missing is the error of a pattern of which there is to be no fact, so that nothing is known by it.
func (k *known) missing(c api.Cond) api.Errno {
	defer k.forget(len(k.list))
	return k.pattern(c.Pat)
}

func (k *known) test(c api.Cond) api.Errno {
	return first(
		unless(api.ErrForm, func() bool { return sameness(c.Op) || order(c.Op) }),
		func() api.Errno { return each([]api.Expr{c.A, c.B}, k.typed) },
		unless(api.ErrType, func() bool {
			kind := k.kind(c.A)
			return kind == k.kind(c.B) && (kind == api.Num || sameness(c.Op))
		}),
	)
}

// sameness tells whether a test takes two of any one type.
func sameness(op string) bool { return op == "=" || op == "!=" }

// order tells whether a test takes numbers alone.
func order(op string) bool {
	switch op {
	case "<", "<=", ">", ">=":
		return true
	}
	return false
}

// let is the error of what comes of others: what these know is known inside alone, but for the variables by which it comes.
func (k *known) let(deep int, c api.Cond) api.Errno {
	inside := know(k.schema)
	return first(
		unless(api.ErrForm, func() bool { return value.Name(c.Var) }),
		unless(api.ErrNone, func() bool { return fold.Kind(c.Fold) != 0 }),
		unless(api.ErrTooMany, func() bool { return deep < api.MaxDeep-1 }),
		func() api.Errno { return inside.conds(deep+1, c.Over...) },
		unless(api.ErrNone, func() bool { return inside.has(c.Arg) }),
		unless(api.ErrType, func() bool { return inside.takes(c.Fold, c.Arg) }),
		func() api.Errno { return inside.by(c.By...) },
		func() api.Errno { return k.joined(inside, c.By...) },
		func() api.Errno { return k.come(inside.folded(c)) },
	)
}

// takes tells whether a fold may be of a variable.
func (k *known) takes(name, arg string) bool {
	switch fold.Kind(name) {
	case api.FoldSum, api.FoldAvg:
		v, _ := k.find(arg)
		return v.Type == api.Num
	}
	return true
}

// by is the error of variables by which a fold comes, of those that are known inside.
func (k *known) by(l ...string) api.Errno {
	ahead := know(k.schema)
	return each(l, func(name string) api.Errno {
		return first(
			func() api.Errno { return ahead.come(api.Known{Name: name}) },
			unless(api.ErrNone, func() bool { return k.has(name) }),
		)
	})
}

// joined makes variables that are known inside known outside too; those that are have to be the same.
func (k *known) joined(inside *known, l ...string) api.Errno {
	return each(l, func(name string) api.Errno {
		v, _ := inside.find(name)
		was, is := k.find(name)
		if !is {
			return k.come(v)
		}
		if was != v {
			return api.ErrType
		}
		return api.OK
	})
}

// folded is what is known of a fold's variable, by what is known inside.
func (k *known) folded(c api.Cond) api.Known {
	switch fold.Kind(c.Fold) {
	case api.FoldMin, api.FoldMax:
		v, _ := k.find(c.Arg)
		v.Name = c.Var
		return v
	case api.FoldSet:
		return api.Known{Name: c.Var, Type: api.Set}
	}
	return api.Known{Name: c.Var, Type: api.Num}
}
