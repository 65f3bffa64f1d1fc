package parse

import "tribunal/api"

func (p *parser) conditions() []api.Cond { return list(p, p.condition) }

// condition reads a condition, by its first name.
func (p *parser) condition() api.Cond {
	p.open()
	switch first := p.name(); first {
	case "as":
		return api.Cond{Kind: api.CondPat, As: p.variable(), Pat: last(p, p.pattern)}
	case "not":
		return api.Cond{Kind: api.CondNot, Pat: last(p, p.pattern)}
	case "if":
		return api.Cond{Kind: api.CondIf, Op: p.test(), A: p.expression(), B: last(p, p.expression)}
	case "let":
		return api.Cond{Kind: api.CondLet, Var: p.variable(), Fold: p.name(), Arg: p.variable(), By: list(p, p.variable), Over: last(p, p.conditions)}
	default:
		return api.Cond{Kind: api.CondPat, Pat: api.Pat{Tmpl: first, Slots: rest(p, p.slot)}}
	}
}

// test reads what a test asks of two expressions.
func (p *parser) test() string {
	return p.take(api.TokSign, "<", "<=", ">", ">=", "=", "!=")
}

// pattern reads a pattern where no other condition may stand, so that it may be of any template.
func (p *parser) pattern() api.Pat {
	p.open()
	return api.Pat{Tmpl: p.name(), Slots: rest(p, p.slot)}
}

func (p *parser) slot() api.Slot {
	p.open()
	return api.Slot{Name: p.name(), T: last(p, p.term)}
}
