package show

import "tribunal/api"

func (w *writer) conds(l ...api.Cond) {
	nested(l, ending(l, over, (*writer).openCond), w.openCond, w.shutCond)
}

// over is the conditions that stand in another one.
func over(c api.Cond) []api.Cond {
	if c.Kind != api.CondLet {
		return nil
	}
	return c.Over
}

// openCond writes a condition; one in which others stand, up to these.
func (w *writer) openCond(c api.Cond) {
	switch c.Kind {
	case api.CondPat:
		w.pattern(c)
	case api.CondNot:
		w.open("not")
		w.pats(c.Pat)
		w.shut()
	case api.CondIf:
		w.open("if")
		w.signs(c.Op)
		w.exprs(c.A, c.B)
		w.shut()
	case api.CondLet:
		w.open("let")
		w.vars(c.Var)
		w.names(c.Fold)
		w.vars(c.Arg)
		w.open()
		w.vars(c.By...)
		w.shut()
		w.open()
	default:
		w.open()
		w.shut()
	}
}

// shutCond writes what stands behind the conditions in another one.
func (w *writer) shutCond(c api.Cond) {
	if c.Kind == api.CondLet {
		w.signs(")", ")")
	}
}

// pattern writes a pattern, behind its fact's variable, if it has one.
func (w *writer) pattern(c api.Cond) {
	if c.As == "" {
		w.pats(c.Pat)
		return
	}
	w.open("as")
	w.vars(c.As)
	w.pats(c.Pat)
	w.shut()
}

func (w *writer) pats(l ...api.Pat) {
	for _, p := range l {
		w.open(p.Tmpl)
		for _, s := range p.Slots {
			w.open(s.Name)
			w.terms(s.T)
			w.shut()
		}
		w.shut()
	}
}
