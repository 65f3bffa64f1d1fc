package world

import (
	"strconv"
	"strings"

	"tribunal/api"
	"tribunal/lex"
	"tribunal/parse"
	"tribunal/value"
)

// reader reads a line's tokens, one behind the other; behind one that is not what it has to be none is left.
type reader struct {
	tokens []api.Token // those that are not read yet
	wrong  bool
}

// inside is a reader of what stands between a line's brackets; of nothing, if it has none.
func inside(text string) reader {
	// With an error there are no tokens.
	l, _, _ := lex.Lex(text)
	last := len(l) - 1
	if last < 1 || l[0].S != "(" || l[last].S != ")" {
		return reader{}
	}
	return reader{tokens: l[1:last]}
}

// right tells whether all was read, and was what it had to be.
func (r *reader) right() bool { return !r.wrong && len(r.tokens) == 0 }

func (r *reader) fail() { r.tokens, r.wrong = nil, true }

// take reads a token of a kind: what it is, nothing, if the next one is none.
func (r *reader) take(kind int) string {
	if len(r.tokens) == 0 || r.tokens[0].Kind != kind {
		r.fail()
		return ""
	}
	s := r.tokens[0].S
	r.tokens = r.tokens[1:]
	// What is kept of a line is not to keep the text that it is a piece of.
	return strings.Clone(s)
}

func (r *reader) name() string { return r.take(api.TokName) }

func (r *reader) value() api.Value {
	// What lex takes for a value is one.
	v, _ := value.Read(r.take(api.TokValue))
	return v
}

// number reads a number: decimals of as many digits as a fact's number has at most.
func (r *reader) number() int {
	s := r.take(api.TokValue)
	if !value.Right(api.Value{Kind: api.Id, S: s}) {
		r.fail()
		return 0
	}
	n, _ := strconv.Atoi(s)
	return n
}

// put reads a slot, and the value that it is to have, in brackets.
func (r *reader) put() api.Put {
	r.sign("(")
	p := api.Put{Name: r.name(), V: r.value()}
	r.sign(")")
	return p
}

// sign reads that one.
func (r *reader) sign(s string) {
	if r.take(api.TokSign) != s {
		r.fail()
	}
}

// rest reads things, as many as there are.
func rest[T any](r *reader, one func() T) []T {
	var l []T
	for len(r.tokens) > 0 {
		l = append(l, one())
	}
	return l
}

// conditions reads all that is left as a rule's conditions.
func (r *reader) conditions() []api.Cond {
	p, _, err := parse.Parse("( rule q 0 " + lex.Join(r.tokens) + " ( ) )")
	r.tokens = nil
	// Tokens may end that rule, and begin another one, that ends with the text.
	if err != api.OK || len(p.Rules) != 1 {
		r.fail()
		return nil
	}
	return p.Rules[0].Conds
}
