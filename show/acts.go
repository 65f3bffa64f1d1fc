package show

import (
	"tribunal/api"
	"tribunal/value"
)

func (w *writer) acts(l ...api.Act) {
	for _, a := range l {
		w.open()
		switch a.Kind {
		case api.ActAssert:
			w.names("assert", a.Tmpl)
			w.fills(a.Fills...)
		case api.ActRetract:
			w.names("retract")
			w.vars(a.Var)
		case api.ActModify:
			w.names("modify")
			w.vars(a.Var)
			w.fills(a.Fills...)
		case api.ActPrint:
			w.names("print")
			w.exprs(a.E)
		case api.ActHalt:
			w.names("halt")
		}
		w.shut()
	}
}

func (w *writer) fills(l ...api.Fill) {
	for _, f := range l {
		w.open(f.Name)
		w.exprs(f.E)
		w.shut()
	}
}

func (w *writer) exprs(l ...api.Expr) {
	nested(l, ending(l, parts, (*writer).openExpr), w.openExpr, w.shutExpr)
}

// parts is the expressions that stand in another one.
func parts(e api.Expr) []api.Expr {
	if e.Op == "" {
		return nil
	}
	return e.L
}

// openExpr writes a term; of any other expression what stands ahead of those in it.
func (w *writer) openExpr(e api.Expr) {
	if e.Op == "" {
		w.terms(e.T)
		return
	}
	w.signs("(", e.Op)
}

// shutExpr writes what stands behind the expressions in another one.
func (w *writer) shutExpr(e api.Expr) {
	if e.Op != "" {
		w.shut()
	}
}

func (w *writer) terms(l ...api.Term) {
	for _, t := range l {
		if t.Var != "" {
			w.vars(t.Var)
		} else {
			w.values(value.Show(t.V))
		}
	}
}
