package net

import (
	"slices"

	"tribunal/absent"
	"tribunal/alpha"
	"tribunal/api"
	"tribunal/fold"
	"tribunal/group"
	"tribunal/join"
	"tribunal/schema"
	"tribunal/show"
)

// place is behind some conditions: what these hold for, the places behind one more, by its text, and the rows of the rules that end here, if one does.
type place struct {
	node
	next map[string]*place
	end  *rows
}

// begin is a net of no rules.
func begin(may *schema.Schema) *Net {
	n := &Net{may: may, facts: map[int][]*pattern{}, patterns: map[string]*pattern{}, groups: map[string]*groups{}, asking: map[string][]*pattern{}}
	n.first = n.place(&start{})
	return n
}

// place is one of a new node.
func (n *Net) place(one node) *place {
	n.nodes = append(n.nodes, one)
	return &place{node: one, next: map[string]*place{}}
}

// rule puts in one more rule, of conditions that may be.
func (n *Net) rule(l []api.Cond) {
	at := n.behind(l)
	if at.end == nil {
		at.end = newRows(at)
		n.ends = append(n.ends, at.end)
	}
	n.rules = append(n.rules, at.end)
}

// behind is the place behind conditions.
func (n *Net) behind(l []api.Cond) *place {
	at := n.first
	for _, c := range l {
		text := show.Cond(c)
		next, there := at.next[text]
		if !there {
			next = n.place(n.step(at, c, text))
			at.next[text] = next
		}
		at = next
	}
	return at
}

// step is a new node behind a place, of one more condition, and its text.
func (n *Net) step(from node, c api.Cond, text string) node {
	switch c.Kind {
	case api.CondPat:
		return newPair(join.New(), from, n.pattern(c.Pat, c.As))
	case api.CondNot:
		return newPair(absent.New(), from, n.pattern(c.Pat, ""))
	case api.CondIf:
		t := &test{from: from, op: c.Op, a: own(c.A), b: own(c.B)}
		from.follow(t.take)
		return t
	}
	return newPair(join.New(), from, n.grouped(c, text))
}

// newPair is a node of two others.
func newPair(of sides, left, right node) *pair {
	p := &pair{of: of}
	hear(left, p.left)
	hear(right, p.right)
	return p
}

// pattern is the node of a pattern, and of a variable for its facts' numbers.
func (n *Net) pattern(p api.Pat, as string) *pattern {
	text := show.Cond(api.Cond{Kind: api.CondPat, Pat: p, As: as})
	one, there := n.patterns[text]
	if !there {
		one = &pattern{of: alpha.New(n.may, p, as)}
		n.patterns[text] = one
		n.asking[p.Tmpl] = append(n.asking[p.Tmpl], one)
		n.nodes = append(n.nodes, one)
	}
	return one
}

// grouped is the node of what comes of what other conditions hold for: these know nothing of what is ahead, so that it is the same one at each place.
func (n *Net) grouped(c api.Cond, text string) *groups {
	one, there := n.groups[text]
	if !there {
		one = &groups{of: group.New(fold.Kind(c.Fold), c.Var, c.Arg, c.By)}
		hear(n.behind(c.Over), one.take)
		n.groups[text] = one
		n.nodes = append(n.nodes, one)
	}
	return one
}

// own is an expression with lists of its own.
func own(e api.Expr) api.Expr {
	e.L = slices.Clone(e.L)
	for i, one := range e.L {
		e.L[i] = own(one)
	}
	return e
}
