package nat

import (
	"math"
	"math/bits"
)

// Div is how often b is in a, and what is left; false: b is 0.
func Div(a []uint32, b []uint32) ([]uint32, []uint32, bool) {
	by := short(b)
	if len(by) == 0 {
		return nil, nil, false
	}
	// With its topmost bit set, a guess from by's topmost limb alone is at most 2 too great.
	up := bits.LeadingZeros32(by[len(by)-1])
	by = short(shift(by, up))
	rest := shift(a, up)
	often := make([]uint32, max(0, len(rest)-len(by)))
	for i := len(often) - 1; i >= 0; i-- {
		often[i] = take(rest[i:i+len(by)+1], by)
	}
	// Up to the next whole limb, which is left out, is as good as down again.
	left := shift(rest, 32-up)[1:]
	return short(often), short(left), true
}

// shift is a times 2 to the power of n, which is 32 at most, in one limb more than a's.
func shift(a []uint32, n int) []uint32 {
	out := make([]uint32, len(a)+1)
	along(out, a, nil, func(x, _, carry uint32) (uint32, uint32) {
		wide := uint64(x)<<n | uint64(carry)
		return uint32(wide), uint32(wide >> 32)
	})
	return out
}

// take takes by away from rest as often as it is in, and tells how often. Rest has one limb more than by, and less than 2^32 times by.
func take(rest, by []uint32) uint32 {
	n := len(by)
	top := uint64(rest[n])<<32 | uint64(rest[n-1])
	guess := uint32(min(top/uint64(by[n-1]), math.MaxUint32))
	owed := along(rest, rest, by, minus(guess))
back:
	if owed != 0 {
		guess--
		owed -= along(rest, rest, by, bits.Add32)
		goto back
	}
	return guess
}

// minus takes from each limb so many times the other one.
func minus(times uint32) step {
	return func(x, y, carry uint32) (uint32, uint32) {
		much := uint64(times)*uint64(y) + uint64(carry)
		low, owed := bits.Sub32(x, uint32(much), 0)
		return low, uint32(much>>32) + owed
	}
}
