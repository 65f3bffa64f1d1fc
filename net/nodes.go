package net

import (
	"slices"

	"tribunal/alpha"
	"tribunal/api"
	"tribunal/expr"
	"tribunal/group"
)

// node tells tuples; those that follow it are told which ones come and go.
type node interface {
	all() []api.Tuple
	follow(ear func(api.Delta))
	held() int
}

// hear has a function follow a node, that may tell something already.
func hear(n node, ear func(api.Delta)) {
	for _, t := range n.all() {
		ear(api.Delta{Add: true, T: t})
	}
	n.follow(ear)
}

// ears is what follows a node.
type ears struct{ l []func(api.Delta) }

func (e *ears) follow(ear func(api.Delta)) { e.l = append(e.l, ear) }

// tell hands deltas on, in their order.
func (e *ears) tell(l []api.Delta) {
	for _, d := range l {
		for _, ear := range e.l {
			ear(d)
		}
	}
}

// start is what there is ahead of all conditions: one tuple of nothing.
type start struct{ ears }

func (s *start) all() []api.Tuple { return []api.Tuple{{}} }

func (s *start) held() int { return 0 }

// pattern is what facts make of a pattern.
type pattern struct {
	ears
	of   *alpha.Node
	many int
}

func (p *pattern) all() []api.Tuple { return p.of.All() }

func (p *pattern) held() int { return p.many }

func (p *pattern) add(f api.Fact) { p.take(p.of.Add(f)) }

func (p *pattern) del(id int) { p.take(p.of.Del(id)) }

// take also counts, as package alpha tells the tuples themselves alone.
func (p *pattern) take(l []api.Delta) {
	for _, d := range l {
		p.many += step(d)
	}
	p.tell(l)
}

// step is how many more there are by a delta.
func step(d api.Delta) int {
	if d.Add {
		return 1
	}
	return -1
}

// sides is what two rows of tuples make: package join's node, or package absent's.
type sides interface {
	Left(d api.Delta) []api.Delta
	Right(d api.Delta) []api.Delta
	All() []api.Tuple
	Held() int
}

// pair is what tuples make with a pattern, or with what comes of groups.
type pair struct {
	ears
	of sides
}

func (p *pair) left(d api.Delta) { p.tell(p.of.Left(d)) }

func (p *pair) right(d api.Delta) { p.tell(p.of.Right(d)) }

func (p *pair) all() []api.Tuple { return p.of.All() }

func (p *pair) held() int { return p.of.Held() }

// test is those tuples of a node for which a test holds. It keeps none.
type test struct {
	ears
	from node
	op   string
	a, b api.Expr
}

func (t *test) take(d api.Delta) {
	if t.holds(d.T) {
		t.tell([]api.Delta{d})
	}
}

func (t *test) holds(one api.Tuple) bool { return expr.Test(t.op, t.a, t.b, one.Binds) }

func (t *test) all() []api.Tuple {
	return slices.DeleteFunc(t.from.all(), func(one api.Tuple) bool { return !t.holds(one) })
}

func (t *test) held() int { return 0 }

// groups is what comes of a node's tuples, by groups.
type groups struct {
	ears
	of *group.Node
}

func (g *groups) take(d api.Delta) { g.tell(g.of.Take(d)) }

func (g *groups) all() []api.Tuple { return g.of.All() }

func (g *groups) held() int { return g.of.Held() + g.of.Groups() }
