package parse

import (
	"tribunal/api"
	"tribunal/value"
)

// action reads an action, by its first name.
func (p *parser) action() api.Act {
	p.open()
	switch p.take(api.TokName, "assert", "retract", "modify", "print", "halt") {
	case "assert":
		return api.Act{Kind: api.ActAssert, Tmpl: p.name(), Fills: rest(p, p.fill)}
	case "retract":
		return api.Act{Kind: api.ActRetract, Var: last(p, p.variable)}
	case "modify":
		return api.Act{Kind: api.ActModify, Var: p.variable(), Fills: rest(p, p.fill)}
	case "print":
		return api.Act{Kind: api.ActPrint, E: last(p, p.expression)}
	}
	p.shut()
	return api.Act{Kind: api.ActHalt}
}

func (p *parser) fill() api.Fill {
	p.open()
	return api.Fill{Name: p.name(), E: last(p, p.expression)}
}

// expression reads a term, or what comes of two expressions.
func (p *parser) expression() api.Expr {
	if !p.is(api.TokSign, "(") {
		return api.Expr{T: p.term()}
	}
	p.open()
	return api.Expr{Op: p.operation(), L: []api.Expr{p.expression(), last(p, p.expression)}}
}

func (p *parser) operation() string {
	return p.take(api.TokSign, "+", "-", "*", "/")
}

func (p *parser) term() api.Term {
	if p.is(api.TokVar) {
		return api.Term{Var: p.variable()}
	}
	// What lex takes for a value is one.
	v, _ := value.Read(p.take(api.TokValue))
	return api.Term{V: v}
}
