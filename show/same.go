package show

import (
	"slices"

	"tribunal/api"
)

// Same tells whether two programs are the same in all, also in what their texts do not show.
func Same(a, b api.Program) bool {
	return slices.EqualFunc(a.Tmpls, b.Tmpls, sameTemplate) && slices.EqualFunc(a.Rules, b.Rules, sameRule)
}

func sameTemplate(a, b api.Template) bool {
	return a.Name == b.Name && slices.Equal(a.Slots, b.Slots)
}

func sameRule(a, b api.Rule) bool {
	return a.Name == b.Name && a.Salience == b.Salience && sameConds(a.Conds, b.Conds) && slices.EqualFunc(a.Acts, b.Acts, sameAct)
}

func sameConds(a, b []api.Cond) bool {
	return alike(a, b, func(c api.Cond) []api.Cond { return c.Over }, sameCond)
}

// sameCond tells whether two conditions are the same, but for those in them.
func sameCond(a, b api.Cond) bool {
	return a.Kind == b.Kind &&
		a.As == b.As && samePat(a.Pat, b.Pat) &&
		a.Op == b.Op && sameExprs(a.A, b.A) && sameExprs(a.B, b.B) &&
		a.Var == b.Var && a.Fold == b.Fold && a.Arg == b.Arg && slices.Equal(a.By, b.By)
}

func samePat(a, b api.Pat) bool { return a.Tmpl == b.Tmpl && slices.Equal(a.Slots, b.Slots) }

func sameAct(a, b api.Act) bool {
	return a.Kind == b.Kind && a.Tmpl == b.Tmpl && a.Var == b.Var && slices.EqualFunc(a.Fills, b.Fills, sameFill) && sameExprs(a.E, b.E)
}

func sameFill(a, b api.Fill) bool { return a.Name == b.Name && sameExprs(a.E, b.E) }

func sameExprs(a, b api.Expr) bool {
	return alike([]api.Expr{a}, []api.Expr{b}, func(e api.Expr) []api.Expr { return e.L }, sameExpr)
}

// sameExpr tells whether two expressions are the same, but for those in them.
func sameExpr(a, b api.Expr) bool { return a.Op == b.Op && a.T == b.T }
