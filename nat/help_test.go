package nat_test

import (
	"math/big"
	"math/rand"
	"slices"
	"testing"

	"tribunal/nat"
)

const top = 1<<32 - 1

// number is a's as math/big has it: all results are held against that package's.
func number(a []uint32) *big.Int {
	n := new(big.Int)
	for i := len(a) - 1; i >= 0; i-- {
		n.Add(n.Lsh(n, 32), big.NewInt(int64(a[i])))
	}
	return n
}

func inShort(a []uint32) bool { return len(a) == 0 || a[len(a)-1] != 0 }

// want fails, unless got is a number, in short.
func want(t *testing.T, what string, got []uint32, n *big.Int) {
	t.Helper()
	if !inShort(got) {
		t.Fatalf("%s: %v is not in short", what, got)
	}
	if number(got).Cmp(n) != 0 {
		t.Fatalf("%s: got %v, want %v", what, got, n)
	}
}

// numbers makes limbs, the same ones each time, many of them at the edges.
type numbers struct{ *rand.Rand }

func newNumbers(seed int64) numbers { return numbers{rand.New(rand.NewSource(seed))} }

func (r numbers) limb() uint32 {
	edges := []uint32{0, 1, 2, 1<<31 - 1, 1 << 31, 1<<31 + 1, top - 1, top}
	if r.Intn(2) == 0 {
		return edges[r.Intn(len(edges))]
	}
	return r.Uint32() >> r.Intn(32)
}

// upTo is a list of n limbs at most, perhaps with limbs 0 at its end.
func (r numbers) upTo(n int) []uint32 {
	l := make([]uint32, r.Intn(n+1))
	for i := range l {
		l[i] = r.limb()
	}
	for range r.Intn(3) {
		l = append(l, 0)
	}
	return l
}

// edges is each list of as many limbs as said, or fewer, of those that carries, guesses and shifts may go wrong at.
func edges(limbs int) [][]uint32 {
	all := [][]uint32{nil}
	last := all
	for range limbs {
		var longer [][]uint32
		for _, l := range last {
			for _, x := range []uint32{0, 1, 1<<31 - 1, 1 << 31, top - 1, top} {
				longer = append(longer, append(slices.Clone(l), x))
			}
		}
		all = append(all, longer...)
		last = longer
	}
	return all
}

// checkPair holds all that two numbers come to against math/big.
func checkPair(t *testing.T, a, b []uint32) {
	t.Helper()
	x, y := number(a), number(b)
	if got := nat.Cmp(a, b); got != x.Cmp(y) {
		t.Fatalf("Cmp(%v, %v): got %d, want %d", a, b, got, x.Cmp(y))
	}
	want(t, "Add", nat.Add(a, b), new(big.Int).Add(x, y))
	want(t, "Mul", nat.Mul(a, b), new(big.Int).Mul(x, y))
	want(t, "Gcd", nat.Gcd(a, b), new(big.Int).GCD(nil, nil, x, y))
	checkSub(t, a, b)
	checkDiv(t, a, b)
}

func checkSub(t *testing.T, a, b []uint32) {
	t.Helper()
	x, y := number(a), number(b)
	got, is := nat.Sub(a, b)
	if is != (x.Cmp(y) >= 0) {
		t.Fatalf("Sub(%v, %v): got %v", a, b, is)
	}
	if is {
		want(t, "Sub", got, x.Sub(x, y))
	} else if len(got) != 0 {
		t.Fatalf("Sub(%v, %v): got %v beside false", a, b, got)
	}
}

func checkDiv(t *testing.T, a, b []uint32) {
	t.Helper()
	x, y := number(a), number(b)
	often, left, is := nat.Div(a, b)
	if is != (y.Sign() != 0) {
		t.Fatalf("Div(%v, %v): got %v", a, b, is)
	}
	if is {
		q, r := new(big.Int).QuoRem(x, y, new(big.Int))
		want(t, "Div, how often", often, q)
		want(t, "Div, what is left", left, r)
	} else if len(often) != 0 || len(left) != 0 {
		t.Fatalf("Div(%v, %v): got %v, %v beside false", a, b, often, left)
	}
}
