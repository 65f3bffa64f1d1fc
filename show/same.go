package show

import (
	"slices"

	"tribunal/api"
)

// Same tells whether two programs are the same in all, also in what their texts do not show.
func Same(a, b api.Program) bool {
	m := matcher{newSames[api.Expr](), newSames[api.Cond]()}
	return slices.EqualFunc(a.Tmpls, b.Tmpls, sameTemplate) && slices.EqualFunc(a.Rules, b.Rules, m.sameRule)
}

func sameTemplate(a, b api.Template) bool {
	return a.Name == b.Name && slices.Equal(a.Slots, b.Slots)
}

// matcher holds two programs' rules against each other.
type matcher struct {
	exprs sames[api.Expr]
	conds sames[api.Cond]
}

func (m matcher) sameRule(a, b api.Rule) bool {
	return a.Name == b.Name && a.Salience == b.Salience && m.sameConds(a.Conds, b.Conds) && slices.EqualFunc(a.Acts, b.Acts, m.sameAct)
}

func (m matcher) sameConds(a, b []api.Cond) bool {
	return m.conds.alike(a, b, func(c api.Cond) []api.Cond { return c.Over }, m.sameCond)
}

// sameCond tells whether two conditions are the same, but for those in them.
func (m matcher) sameCond(a, b api.Cond) bool {
	return a.Kind == b.Kind &&
		a.As == b.As && samePat(a.Pat, b.Pat) &&
		a.Op == b.Op && m.sameExprs(a.A, b.A) && m.sameExprs(a.B, b.B) &&
		a.Var == b.Var && a.Fold == b.Fold && a.Arg == b.Arg && slices.Equal(a.By, b.By)
}

func samePat(a, b api.Pat) bool { return a.Tmpl == b.Tmpl && slices.Equal(a.Slots, b.Slots) }

func (m matcher) sameAct(a, b api.Act) bool {
	return a.Kind == b.Kind && a.Tmpl == b.Tmpl && a.Var == b.Var && slices.EqualFunc(a.Fills, b.Fills, m.sameFill) && m.sameExprs(a.E, b.E)
}

func (m matcher) sameFill(a, b api.Fill) bool { return a.Name == b.Name && m.sameExprs(a.E, b.E) }

func (m matcher) sameExprs(a, b api.Expr) bool {
	return m.exprs.alike([]api.Expr{a}, []api.Expr{b}, func(e api.Expr) []api.Expr { return e.L }, sameExpr)
}

// sameExpr tells whether two expressions are the same, but for those in them.
func sameExpr(a, b api.Expr) bool { return a.Op == b.Op && a.T == b.T }
