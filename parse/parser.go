package parse

import (
	"slices"

	"tribunal/api"
)

// place is where the first token stands with which a text begins no program; the text's end, if all of it does. It is what the parser panics with.
type place int

// parser reads tokens, one behind the other. Where several of its calls stand in one literal, they read from left to right, as Go has it of calls.
type parser struct {
	l   []api.Token // the tokens that are not read yet
	end int         // how many bytes the text has
}

// next is the token that is to be read; one of no kind, at the end, if none is left.
func (p *parser) next() api.Token {
	if len(p.l) == 0 {
		return api.Token{At: p.end}
	}
	return p.l[0]
}

// is tells whether the next token is of a kind, and one of those; any will do, if none is told.
func (p *parser) is(kind int, those ...string) bool {
	t := p.next()
	return t.Kind == kind && (len(those) == 0 || slices.Contains(those, t.S))
}

// take reads a token of a kind, one of those: what it is.
func (p *parser) take(kind int, those ...string) string {
	t := p.next()
	if !p.is(kind, those...) {
		panic(place(t.At))
	}
	p.l = p.l[1:]
	return t.S
}

func (p *parser) open() { p.take(api.TokSign, "(") }

func (p *parser) shut() { p.take(api.TokSign, ")") }

func (p *parser) name() string { return p.take(api.TokName) }

func (p *parser) variable() string { return p.take(api.TokVar) }

// last reads a thing, and what shuts the list that ends with it.
func last[T any](p *parser, one func() T) T {
	v := one()
	p.shut()
	return v
}

// rest reads things, up to what shuts their list, and that.
func rest[T any](p *parser, one func() T) []T {
	var l []T
	for !p.is(api.TokSign, ")") {
		l = append(l, one())
	}
	p.shut()
	return l
}

// list reads a list of things, from what opens it on.
func list[T any](p *parser, one func() T) []T {
	p.open()
	return rest(p, one)
}
