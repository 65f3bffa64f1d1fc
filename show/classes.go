package show

import (
	"cmp"
	"slices"
)

// classes tells lists apart. Those that have just one are not known to be unlike.
type classes struct {
	of       []int // each list's
	order    []int // lists, those of a class beside one another
	at       []int // where each list stands there
	from, to []int // where each class begins there, and ends
	moved    []int // how many of each class were moved to where it begins
}

// use is that a list stands in another one, in which of its members.
type use struct{ member, by int }

// classesOf tells lists apart by what is written of them, and by the lists in them, however deep: two are of one class just if all that would ever be written of both is alike.
func classesOf(words []string, in [][]int) []int {
	c := newClasses(words)
	uses := make([][]use, len(in))
	for by, l := range in {
		for member, inner := range l {
			uses[inner] = append(uses[inner], use{member, by})
		}
	}
	// New classes come behind the others while this goes on. Of one that is parted just the smaller part is new: what the greater one would part the whole one and the smaller one do (Hopcroft).
	for n := 0; n < len(c.from); n++ {
		var l []use
		for _, list := range c.order[c.from[n]:c.to[n]] {
			l = append(l, uses[list]...)
		}
		c.partAll(l)
	}
	return c.of
}

// newClasses has those in one class of which the same is written.
func newClasses(words []string) *classes {
	c := &classes{of: make([]int, len(words)), at: make([]int, len(words))}
	for n := range words {
		c.order = append(c.order, n)
	}
	slices.SortFunc(c.order, func(a, b int) int { return cmp.Or(cmp.Compare(words[a], words[b]), cmp.Compare(a, b)) })
	from := 0
	for i, n := range c.order {
		c.at[n] = i
		if i+1 == len(words) || words[c.order[i+1]] != words[n] {
			c.add(from, i+1)
			from = i + 1
		}
	}
	return c
}

// add makes a class of what stands there.
func (c *classes) add(from, to int) {
	for _, n := range c.order[from:to] {
		c.of[n] = len(c.from)
	}
	c.from, c.to, c.moved = append(c.from, from), append(c.to, to), append(c.moved, 0)
}

// partAll parts classes by each member of lists for itself: those that have one of some lists there, and the others.
func (c *classes) partAll(l []use) {
	slices.SortFunc(l, func(a, b use) int { return cmp.Or(cmp.Compare(a.member, b.member), cmp.Compare(a.by, b.by)) })
	for from, to := 0, 0; from < len(l); from = to {
		for to < len(l) && l[to].member == l[from].member {
			to++
		}
		c.part(l[from:to])
	}
}

// part has lists, none of them twice, in no class with others.
func (c *classes) part(l []use) {
	var touched []int
	for _, u := range l {
		n := c.of[u.by]
		if c.moved[n] == 0 {
			touched = append(touched, n)
		}
		c.move(u.by, c.from[n]+c.moved[n])
		c.moved[n]++
	}
	for _, n := range touched {
		c.halve(n)
	}
}

// move puts a list there, and the one that is there to where that was.
func (c *classes) move(list, to int) {
	from, other := c.at[list], c.order[to]
	c.order[from], c.order[to] = other, list
	c.at[other], c.at[list] = from, to
}

// halve makes a new class of the smaller one of two: those of a class that were moved, and the others; none, if there are no others.
func (c *classes) halve(n int) {
	from, mid, to := c.from[n], c.from[n]+c.moved[n], c.to[n]
	c.moved[n] = 0
	switch {
	case mid == to:
	case mid-from < to-mid:
		c.from[n] = mid
		c.add(from, mid)
	default:
		c.to[n] = mid
		c.add(mid, to)
	}
}
