package tree

import (
	"strconv"

	"tribunal/api"
	"tribunal/rat"
	"tribunal/value"
)

// The sides of a node: what is ahead of its value, and what is behind it.
const (
	ahead  = 0
	behind = 1
)

// node is an unlike value, with all that stands below it. Neither side is deeper than the other one by more than one; so a tree is flat. No node at all is nil.
type node struct {
	v     api.Value
	times int // how often v is in
	below [2]*node
	whole size // of n, and all below it
}

// size is how many values are in nodes, each as often as it is in, how many unlike ones, and how deep the nodes stand.
type size struct{ many, kinds, deep int }

func (n *node) size() size {
	if n == nil {
		return size{}
	}
	return n.whole
}

// all tells n's nodes, in order, until yield has enough.
func (n *node) all(yield func(*node) bool) { n.tell(yield) }

// tell is false, if yield has had enough.
func (n *node) tell(yield func(*node) bool) bool {
	return n == nil || n.below[ahead].tell(yield) && yield(n) && n.below[behind].tell(yield)
}

// side is on which side of n v is to be looked for; false: it is n's own value.
func (n *node) side(v api.Value) (int, bool) {
	switch value.Cmp(v, n.v) {
	case -1:
		return ahead, true
	case 1:
		return behind, true
	}
	return 0, false
}

// count is how often v is in. (One that is not right is alike with none, so that it is not found.)
func (n *node) count(v api.Value) int {
	for n != nil {
		side, below := n.side(v)
		if !below {
			return n.times
		}
		n = n.below[side]
	}
	return 0
}

// rank is how many of all stand ahead of v.
func (n *node) rank(v api.Value) int {
	if n == nil {
		return 0
	}
	side, below := n.side(v)
	switch {
	case !below:
		return n.below[ahead].size().many
	case side == ahead:
		return n.below[ahead].rank(v)
	}
	return n.below[ahead].size().many + n.times + n.below[behind].rank(v)
}

// at is the k-th of all, in order; false: there is none.
func (n *node) at(k int) (api.Value, bool) {
	if k < 0 || k >= n.size().many {
		return api.Value{}, false
	}
	own := k - n.below[ahead].size().many
	switch {
	case own < 0:
		return n.below[ahead].at(k)
	case own < n.times:
		return n.v, true
	}
	return n.below[behind].at(own - n.times)
}

// share is n's value, which is a Num, as often as it is in.
func (n *node) share() string {
	if n.times == 1 {
		return n.v.S
	}
	// A Num is short enough for any product with what an int can be.
	s, _ := rat.Mul(n.v.S, strconv.Itoa(n.times))
	return s
}

// put is n's nodes with v, which is right, in so many times more; of fewer times, at most as often as it is in.
func (n *node) put(v api.Value, more int) *node {
	if n == nil {
		return (&node{v: v, times: more}).sized()
	}
	side, below := n.side(v)
	switch {
	case below:
		n.below[side] = n.below[side].put(v, more)
	case n.times+more == 0:
		return n.without()
	default:
		n.times += more
	}
	return n.flat()
}

// without is n's nodes but for n itself.
func (n *node) without() *node {
	if n.below[behind] == nil {
		return n.below[ahead]
	}
	rest, top := n.below[behind].cut()
	top.below = [2]*node{n.below[ahead], rest}
	return top.flat()
}

// cut is n's nodes but for the first one, and that.
func (n *node) cut() (*node, *node) {
	if n.below[ahead] == nil {
		return n.below[behind], n
	}
	rest, first := n.below[ahead].cut()
	n.below[ahead] = rest
	return n.flat(), first
}

// flat is n's nodes, flat again, if one of both sides was deeper than the other one by two; sized anew.
func (n *node) flat() *node {
	for side, top := range n.below {
		if top.size().deep <= n.below[1-side].size().deep+1 {
			continue
		}
		// What is in the middle stays below n, where the lifted one goes up: it may not be the deeper part.
		if top.below[side].size().deep < top.below[1-side].size().deep {
			n.below[side] = top.lift(1 - side)
		}
		return n.lift(side)
	}
	return n.sized()
}

// lift is n's nodes, with the topmost one of a side on top.
func (n *node) lift(side int) *node {
	top := n.below[side]
	n.below[side] = top.below[1-side]
	top.below[1-side] = n.sized()
	return top.sized()
}

// sized is n, with the size that it has by what is below it.
func (n *node) sized() *node {
	a, b := n.below[ahead].size(), n.below[behind].size()
	n.whole = size{a.many + n.times + b.many, a.kinds + 1 + b.kinds, max(a.deep, b.deep) + 1}
	return n
}
