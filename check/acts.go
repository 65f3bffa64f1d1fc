package check

import (
	"slices"

	"tribunal/api"
)

// act is the error of an action.
func (k *known) act(a api.Act) api.Errno {
	if !ownAct(a) {
		return api.ErrForm
	}
	switch a.Kind {
	case api.ActAssert:
		return k.assert(a)
	case api.ActRetract:
		return k.fact(a.Var)
	case api.ActModify:
		return k.modify(a)
	case api.ActPrint:
		return k.typed(a.E)
	}
	return api.OK
}

// ownAct tells whether an action is of a kind, and has nothing that is no part of it.
func ownAct(a api.Act) bool {
	switch a.Kind {
	case api.ActAssert:
		a.Tmpl, a.Fills = "", nil
	case api.ActRetract:
		a.Var = ""
	case api.ActModify:
		a.Var, a.Fills = "", nil
	case api.ActPrint:
		a.E = api.Expr{}
	case api.ActHalt:
	default:
		return false
	}
	return empty(a.Tmpl, a.Var) && noExprs(a.E) && len(a.Fills) == 0
}

func (k *known) assert(a api.Act) api.Errno {
	t, is := k.schema.Find(a.Tmpl)
	return first(
		unless(api.ErrNone, func() bool { return is }),
		unless(api.ErrArg, func() bool { return len(a.Fills) == len(t.Slots) }),
		func() api.Errno { return k.fills(a.Tmpl, a.Fills...) },
	)
}

func (k *known) modify(a api.Act) api.Errno {
	v, _ := k.find(a.Var)
	return first(
		func() api.Errno { return k.fact(a.Var) },
		func() api.Errno { return k.fills(v.Tmpl, a.Fills...) },
	)
}

// fact is the error of a variable that is to be a fact's number.
func (k *known) fact(name string) api.Errno {
	v, is := k.find(name)
	return first(
		unless(api.ErrNone, func() bool { return is }),
		unless(api.ErrType, func() bool { return v.Type == api.Id }),
	)
}

// fills is the error of expressions for a template's slots: which slots they are for comes ahead of the expressions.
func (k *known) fills(tmpl string, l ...api.Fill) api.Errno {
	var ahead []string
	return first(
		func() api.Errno {
			return each(l, func(f api.Fill) api.Errno {
				if k.schema.Type(tmpl, f.Name) == 0 || slices.Contains(ahead, f.Name) {
					return api.ErrArg
				}
				ahead = append(ahead, f.Name)
				return api.OK
			})
		},
		func() api.Errno {
			return each(l, func(f api.Fill) api.Errno { return k.suits(f.E, k.schema.Type(tmpl, f.Name)) })
		},
	)
}
