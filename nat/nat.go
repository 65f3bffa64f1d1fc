// Package nat is layer 1: see shared/doc/01-nat.md.
package nat

import (
	"cmp"
	"math/bits"
)

// step makes, of a limb of each of two numbers and what the place below hands on, this place's limb, and what it hands on itself.
type step func(x, y, carry uint32) (uint32, uint32)

// along fills out with what next makes of a's and b's limbs, from the lowest place on, and tells what the last place hands on. Out may be a or b itself.
func along(out, a, b []uint32, next step) uint32 {
	var carry uint32
	for i := range out {
		out[i], carry = next(limb(a, i), limb(b, i), carry)
	}
	return carry
}

// limb is a's at a place; above its end all are 0.
func limb(a []uint32, i int) uint32 {
	if i < len(a) {
		return a[i]
	}
	return 0
}

// short is a without the limbs 0 at its end, in the same memory.
func short(a []uint32) []uint32 {
	n := len(a)
	for n > 0 && a[n-1] == 0 {
		n--
	}
	return a[:n]
}

// Of is n as a number.
func Of(n uint64) []uint32 {
	return short([]uint32{uint32(n), uint32(n >> 32)})
}

// Norm is a in short.
func Norm(a []uint32) []uint32 {
	return append([]uint32(nil), short(a)...)
}

// Cmp is -1, 0 or 1: a is less than b, the same, or greater.
func Cmp(a []uint32, b []uint32) int {
	a, b = short(a), short(b)
	if c := cmp.Compare(len(a), len(b)); c != 0 {
		return c
	}
	for i := len(a) - 1; i >= 0; i-- {
		if c := cmp.Compare(a[i], b[i]); c != 0 {
			return c
		}
	}
	return 0
}

// Add is the sum of both.
func Add(a []uint32, b []uint32) []uint32 {
	out := make([]uint32, max(len(a), len(b))+1)
	along(out, a, b, bits.Add32)
	return short(out)
}

// Sub is a less b; false: a is less than b.
func Sub(a []uint32, b []uint32) ([]uint32, bool) {
	out := make([]uint32, max(len(a), len(b)))
	if along(out, a, b, bits.Sub32) != 0 {
		return nil, false
	}
	return short(out), true
}

// Mul is the product of both.
func Mul(a []uint32, b []uint32) []uint32 {
	out := make([]uint32, len(a)+len(b))
	for i, times := range b {
		row := out[i : i+len(a)+1]
		along(row, row, a, plus(times))
	}
	return short(out)
}

// plus puts to each limb so many times the other one.
func plus(times uint32) step {
	return func(x, y, carry uint32) (uint32, uint32) {
		sum := uint64(times)*uint64(y) + uint64(x) + uint64(carry)
		return uint32(sum), uint32(sum >> 32)
	}
}
