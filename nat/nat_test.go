package nat_test

import (
	"math"
	"math/big"
	"slices"
	"testing"

	"tribunal/nat"
)

// P1.1 (A1): Of.
func TestOf(t *testing.T) {
	for _, c := range []struct {
		n    uint64
		want []uint32
	}{
		{0, nil},
		{1, []uint32{1}},
		{top, []uint32{top}},
		{1 << 32, []uint32{0, 1}},
		{1<<32 + 5, []uint32{5, 1}},
		{7 << 32, []uint32{0, 7}},
		{math.MaxUint64, []uint32{top, top}},
	} {
		if got := nat.Of(c.n); !slices.Equal(got, c.want) {
			t.Errorf("Of(%d): got %v, want %v", c.n, got, c.want)
		}
	}
}

// P1.1 (A1): Norm.
func TestNorm(t *testing.T) {
	for _, c := range []struct{ a, want []uint32 }{
		{nil, nil},
		{[]uint32{}, nil},
		{[]uint32{0}, nil},
		{[]uint32{0, 0, 0}, nil},
		{[]uint32{3, 0, 0}, []uint32{3}},
		{[]uint32{0, 3, 0}, []uint32{0, 3}},
		{[]uint32{0, 0, 3}, []uint32{0, 0, 3}},
		{[]uint32{1, 0, 2, 0}, []uint32{1, 0, 2}},
	} {
		if got := nat.Norm(c.a); !slices.Equal(got, c.want) {
			t.Errorf("Norm(%v): got %v, want %v", c.a, got, c.want)
		}
	}
}

// P1.1 (A1): Cmp, of limbs 0 at the end too.
func TestCmp(t *testing.T) {
	for _, c := range []struct {
		a, b []uint32
		want int
	}{
		{nil, nil, 0},
		{nil, []uint32{0, 0}, 0},
		{[]uint32{0}, []uint32{1}, -1},
		{[]uint32{9, 1, 0}, []uint32{9, 1}, 0},
		{[]uint32{9, 1}, []uint32{8, 2}, -1},
		{[]uint32{0, 0, 1}, []uint32{top, top}, 1},
		{[]uint32{5, 0, 0, 0}, []uint32{4, 1}, -1},
		{[]uint32{top}, []uint32{1}, 1},
	} {
		if got := nat.Cmp(c.a, c.b); got != c.want {
			t.Errorf("Cmp(%v, %v): got %d, want %d", c.a, c.b, got, c.want)
		}
		if got := nat.Cmp(c.b, c.a); got != -c.want {
			t.Errorf("Cmp(%v, %v): got %d, want %d", c.b, c.a, got, -c.want)
		}
	}
}

// P1.1 (A2): Add, Sub and Mul.
func TestAddSubMul(t *testing.T) {
	carried := []uint32{0, 0, 1}
	for i, c := range []struct{ got, want []uint32 }{
		{nat.Add(nil, nil), nil},
		{nat.Add([]uint32{0, 0}, []uint32{0}), nil},
		{nat.Add([]uint32{top, top}, []uint32{1}), carried},
		{nat.Add([]uint32{1}, []uint32{top, top, 0, 0}), carried},
		{nat.Add([]uint32{top}, []uint32{top}), []uint32{top - 1, 1}},
		{nat.Mul(carried, nil), nil},
		{nat.Mul([]uint32{0, 0, 0}, carried), nil},
		{nat.Mul([]uint32{0, 1}, []uint32{0, 1, 0}), carried},
		{nat.Mul([]uint32{top, top}, []uint32{top, top}), []uint32{1, 0, top - 1, top}},
	} {
		if !slices.Equal(c.got, c.want) {
			t.Errorf("%d: got %v, want %v", i, c.got, c.want)
		}
	}
	for _, c := range []struct {
		a, b, want []uint32
		is         bool
	}{
		{nil, nil, nil, true},
		{nil, []uint32{0, 0}, nil, true},
		{carried, []uint32{1}, []uint32{top, top}, true},
		{carried, []uint32{0, 0, 1, 0}, nil, true},
		{[]uint32{5, 7}, []uint32{6, 6}, []uint32{top}, true},
		{[]uint32{1}, carried, nil, false},
		{nil, []uint32{1}, nil, false},
		{[]uint32{top, top, 0}, carried, nil, false},
		{[]uint32{1, 2}, []uint32{2, 2}, nil, false},
	} {
		if got, is := nat.Sub(c.a, c.b); is != c.is || !slices.Equal(got, c.want) {
			t.Errorf("Sub(%v, %v): got %v, %v", c.a, c.b, got, is)
		}
	}
}

// P1.1 (A3): Div, of limbs 0 at the end, of 0, and by 0 too.
func TestDiv(t *testing.T) {
	for _, c := range []struct {
		a, b, often, left []uint32
		is                bool
	}{
		{[]uint32{0, 0, 1}, []uint32{10}, []uint32{2576980377, 429496729}, []uint32{6}, true},
		{[]uint32{0, 0, 1}, []uint32{1, 1}, []uint32{top}, []uint32{1}, true},
		{[]uint32{5}, []uint32{0, 0, 1}, nil, []uint32{5}, true},
		{[]uint32{5, 0, 0, 0, 0}, []uint32{0, 0, 1}, nil, []uint32{5}, true},
		{[]uint32{7, 8}, []uint32{7, 8, 0}, []uint32{1}, nil, true},
		{[]uint32{7, 8}, []uint32{1, 0, 0, 0}, []uint32{7, 8}, nil, true},
		{nil, []uint32{3}, nil, nil, true},
		{[]uint32{0, 0}, []uint32{3}, nil, nil, true},
		{[]uint32{0, 0, 1}, nil, nil, nil, false},
		{[]uint32{0, 0, 1}, []uint32{0, 0}, nil, nil, false},
		{nil, nil, nil, nil, false},
	} {
		often, left, is := nat.Div(c.a, c.b)
		if is != c.is || !slices.Equal(often, c.often) || !slices.Equal(left, c.left) {
			t.Errorf("Div(%v, %v): got %v, %v, %v", c.a, c.b, often, left, is)
		}
	}
}

// P1.1 (A3): a limb that is guessed too great goes back, once or twice.
func TestDivGoesBack(t *testing.T) {
	for _, c := range []struct{ a, b, often, left []uint32 }{
		{[]uint32{0, top, top - 1, top}, []uint32{top, top}, []uint32{top, top}, []uint32{top, top - 1}},
		{[]uint32{0, 0, 0, 1 << 31}, []uint32{1, 0, 1 << 31}, []uint32{top}, []uint32{1, top, 1<<31 - 1}},
		{[]uint32{0, 0, 1<<31 - 1}, []uint32{top, 1 << 31}, []uint32{top - 3}, []uint32{top - 3, 4}},
		{[]uint32{0, 0, 0, 1 << 30}, []uint32{top, top, 1 << 30}, []uint32{top - 3}, []uint32{top - 3, 0, 4}},
	} {
		often, left, is := nat.Div(c.a, c.b)
		if !is || !slices.Equal(often, c.often) || !slices.Equal(left, c.left) {
			t.Errorf("Div(%v, %v): got %v, %v, %v", c.a, c.b, often, left, is)
		}
	}
}

// P1.1 (A3): Gcd, with a 0 and with two too.
func TestGcd(t *testing.T) {
	for _, c := range []struct{ a, b, want []uint32 }{
		{nil, nil, nil},
		{[]uint32{0, 0}, []uint32{0}, nil},
		{nil, []uint32{0, 0, 1, 0}, []uint32{0, 0, 1}},
		{[]uint32{4, 5, 0}, []uint32{0, 0, 0, 0}, []uint32{4, 5}},
		{[]uint32{12}, []uint32{18}, []uint32{6}},
		{[]uint32{1}, []uint32{0, 0, 0, 9}, []uint32{1}},
		{[]uint32{0, 0, 6}, []uint32{0, 0, 4, 0}, []uint32{0, 0, 2}},
		{[]uint32{0, 0, 0, 1}, []uint32{48}, []uint32{16}},
		{[]uint32{3, 0, 0, 7}, []uint32{3, 0, 0, 7}, []uint32{3, 0, 0, 7}},
	} {
		if got := nat.Gcd(c.a, c.b); !slices.Equal(got, c.want) {
			t.Errorf("Gcd(%v, %v): got %v, want %v", c.a, c.b, got, c.want)
		}
		if got := nat.Gcd(c.b, c.a); !slices.Equal(got, c.want) {
			t.Errorf("Gcd(%v, %v): got %v, want %v", c.b, c.a, got, c.want)
		}
	}
}

// P1.1, P1: all pairs of lists of three limbs or fewer at the edges.
func TestEdges(t *testing.T) {
	all := edges(3)
	for _, a := range all {
		want(t, "Norm", nat.Norm(a), number(a))
		for _, b := range all {
			checkPair(t, a, b)
		}
	}
}

// P1.1: numbers of many lengths, and some longer than MaxLimbs, which is a limit of no call.
func TestNumbers(t *testing.T) {
	r := newNumbers(1)
	for range 20000 {
		checkPair(t, r.upTo(8), r.upTo(8))
	}
	for range 2000 {
		checkPair(t, r.upTo(60), r.upTo(40))
	}
	for range 20 {
		checkPair(t, r.upTo(500), r.upTo(500))
	}
}

// P1.1: Of is what math/big has, and of two such numbers Cmp is the order of what they were made of.
func TestOfInOrder(t *testing.T) {
	r := newNumbers(2)
	for range 5000 {
		m, n := r.Uint64()>>r.Intn(64), r.Uint64()>>r.Intn(64)
		want(t, "Of", nat.Of(m), new(big.Int).SetUint64(m))
		less, greater := nat.Of(min(m, n)), nat.Of(max(m, n))
		if got := nat.Cmp(less, greater); got > 0 || got == 0 && m != n {
			t.Fatalf("Cmp(%v, %v): got %d", less, greater, got)
		}
	}
}
