package rat

import "tribunal/nat"

// number is up by down, which is above 0. Once reduced, both have no common divisor but 1, and 0 is not below 0.
type number struct {
	below bool // below 0
	up    []uint32
	down  []uint32
}

// reduced is a number without what up and down have in common.
func (n number) reduced() number {
	common := nat.Gcd(n.up, n.down)
	return number{n.below && len(n.up) > 0, part(n.up, common), part(n.down, common)}
}

// part is a by b, which divides it.
func part(a, b []uint32) []uint32 {
	often, _, _ := nat.Div(a, b)
	return often
}

// cmp is -1, 0 or 1: n is less than m, the same, or greater.
func (n number) cmp(m number) int {
	c := nat.Cmp(nat.Mul(n.up, m.down), nat.Mul(m.up, n.down))
	switch {
	case n.below && m.below:
		return -c
	case n.below:
		return -1
	case m.below:
		return 1
	}
	return c
}

// cmpDown is -1, 0 or 1, as cmp, of the denominators alone.
func (n number) cmpDown(m number) int { return nat.Cmp(n.down, m.down) }

func (n number) plus(m number) number {
	common := nat.Gcd(n.down, m.down)
	own := part(n.down, common)
	below, up := signed(n.below, nat.Mul(n.up, part(m.down, common)), m.below, nat.Mul(m.up, own))
	// Up and the new denominator can have in common only what both old ones had, which is shorter.
	again := nat.Gcd(up, common)
	return number{below, part(up, again), nat.Mul(own, part(m.down, again))}
}

// signed is the sum of two whole numbers, each with its sign, and ahead of it whether it is below 0. The second one may be 0 with a sign, which does not come into the sum.
func signed(below bool, a []uint32, also bool, b []uint32) (bool, []uint32) {
	if below == also {
		return below, nat.Add(a, b)
	}
	if left, is := nat.Sub(a, b); is {
		return below && len(left) > 0, left
	}
	left, _ := nat.Sub(b, a)
	return also, left
}

func (n number) minus(m number) number {
	return n.plus(number{!m.below, m.up, m.down})
}

func (n number) times(m number) number {
	return number{n.below != m.below, nat.Mul(n.up, m.up), nat.Mul(n.down, m.down)}.reduced()
}

// by is n by m, which is not 0.
func (n number) by(m number) number {
	return n.times(number{m.below, m.down, m.up})
}

// total is the sum of all. Each half is summed by itself, so that few sums have many numbers in them, and may be long.
func total(l []number) number {
	switch len(l) {
	case 0:
		return number{down: nat.Of(1)}
	case 1:
		return l[0]
	}
	half := len(l) / 2
	return total(l[:half]).plus(total(l[half:]))
}
