package show

import (
	"tribunal/api"
	"tribunal/lex"
)

// builder gathers a text's words.
type builder struct{ l []api.Token }

// add puts words of a kind behind those that are there.
func (b *builder) add(kind int, words ...string) {
	for _, s := range words {
		b.l = append(b.l, api.Token{Kind: kind, S: s})
	}
}

func (b *builder) signs(words ...string) { b.add(api.TokSign, words...) }

func (b *builder) names(words ...string) { b.add(api.TokName, words...) }

func (b *builder) vars(words ...string) { b.add(api.TokVar, words...) }

func (b *builder) values(words ...string) { b.add(api.TokValue, words...) }

// open begins a list, with names as its first words.
func (b *builder) open(names ...string) {
	b.signs("(")
	b.names(names...)
}

func (b *builder) shut() { b.signs(")") }

// text is all words.
func (b *builder) text() string { return lex.Join(b.l) }
