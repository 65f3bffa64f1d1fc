package nat

import "math/bits"

// Gcd is the greatest number that divides both; the other one, if one is 0.
func Gcd(a []uint32, b []uint32) []uint32 {
	x, y := Norm(a), Norm(b)
	if Cmp(x, y) < 0 {
		x, y = y, x
	}
	for len(x) > 2 && len(y) > 0 {
		x, y = nearer(x, y)
	}
	if len(y) == 0 {
		return x
	}
	return Of(smallGcd(word(x), word(y)))
}

// word is a number of two limbs at most.
func word(a []uint32) uint64 {
	return uint64(limb(a, 1))<<32 | uint64(limb(a, 0))
}

func smallGcd(x, y uint64) uint64 {
	for y > 0 {
		x, y = y, x%y
	}
	return x
}

// nearer is two numbers further on in Euclid's row of x and y. X is not less than y, and has three limbs at least; y is not 0.
func nearer(x, y []uint32) ([]uint32, []uint32) {
	m := ahead(heads(x, y))
	if m.b == 0 {
		_, left, _ := Div(x, y)
		return y, left
	}
	return blend(x, y, m.a, m.b), blend(x, y, m.c, m.d)
}

// heads is x's topmost 62 bits, and what y has at the same places. (With so many, all that ahead makes of them stays below 2^31 either way, so that blend's sums have room in 64 bits.)
func heads(x, y []uint32) (int64, int64) {
	n := len(x)
	up := bits.LeadingZeros32(x[n-1])
	head := func(a []uint32) int64 {
		high := uint64(limb(a, n-1))<<32 | uint64(limb(a, n-2))
		return int64((high<<up | uint64(limb(a, n-3))>>(32-up)) >> 2)
	}
	return head(x), head(y)
}

// factors tell how two numbers further on in Euclid's row come of x and y: ax + by, and cx + dy.
type factors struct{ a, b, c, d int64 }

// ahead goes along Euclid's row by the heads of two numbers, while each quotient is the same whatever stands below the heads: so many long divisions become one blend.
func ahead(x, y int64) factors {
	m := factors{a: 1, d: 1}
	for y+m.c > 0 && y+m.d > 0 {
		q := (x + m.a) / (y + m.c)
		if q != (x+m.b)/(y+m.d) {
			break
		}
		m = factors{m.c, m.d, m.a - q*m.c, m.b - q*m.d}
		x, y = y, x-q*y
	}
	return m
}

// blend is p times x and q times y, which is not below 0, nor above x.
func blend(x, y []uint32, p, q int64) []uint32 {
	out := make([]uint32, len(x))
	along(out, x, y, func(x, y, carry uint32) (uint32, uint32) {
		sum := p*int64(x) + q*int64(y) + int64(int32(carry)) // what is handed on may be below 0
		return uint32(sum), uint32(sum >> 32)
	})
	return short(out)
}
