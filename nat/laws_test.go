package nat_test

import (
	"slices"
	"testing"

	"tribunal/nat"
)

// P1.2 (a ring): in any order, products over sums, and what was put to goes away again.
func TestRing(t *testing.T) {
	r := newNumbers(3)
	for range 3000 {
		a, b, c := r.upTo(12), r.upTo(12), r.upTo(12)
		for what, two := range map[string][2][]uint32{
			"a+b":     {nat.Add(a, b), nat.Add(b, a)},
			"a+b+c":   {nat.Add(nat.Add(a, b), c), nat.Add(a, nat.Add(b, c))},
			"a*b":     {nat.Mul(a, b), nat.Mul(b, a)},
			"a*b*c":   {nat.Mul(nat.Mul(a, b), c), nat.Mul(a, nat.Mul(b, c))},
			"a*(b+c)": {nat.Mul(a, nat.Add(b, c)), nat.Add(nat.Mul(a, b), nat.Mul(a, c))},
			"a+0":     {nat.Add(a, nil), nat.Norm(a)},
			"a*1":     {nat.Mul(a, nat.Of(1)), nat.Norm(a)},
			"a*0":     {nat.Mul(a, []uint32{0}), nil},
		} {
			if !slices.Equal(two[0], two[1]) {
				t.Fatalf("%s of %v, %v, %v: %v, %v", what, a, b, c, two[0], two[1])
			}
		}
		if back, is := nat.Sub(nat.Add(a, b), b); !is || !slices.Equal(back, nat.Norm(a)) {
			t.Fatalf("%v and %v less %v: %v, %v", a, b, b, back, is)
		}
	}
}

// P1.3 (division): what is left is less than b; both make up a.
func TestDivision(t *testing.T) {
	r := newNumbers(4)
	for range 5000 {
		a, b := r.upTo(30), r.upTo(12)
		often, left, is := nat.Div(a, b)
		if is != (len(nat.Norm(b)) > 0) {
			t.Fatalf("Div(%v, %v): got %v", a, b, is)
		}
		if !is {
			continue
		}
		if nat.Cmp(left, b) >= 0 {
			t.Fatalf("Div(%v, %v): %v is left", a, b, left)
		}
		if !slices.Equal(nat.Add(nat.Mul(often, b), left), nat.Norm(a)) {
			t.Fatalf("Div(%v, %v): %v and %v don't make it up", a, b, often, left)
		}
	}
}

// P1.3: products, and their neighbours, where a guess is most easily one off.
func TestDivisionOfProducts(t *testing.T) {
	r := newNumbers(5)
	for range 5000 {
		a, b := r.upTo(10), nat.Add(r.upTo(10), nat.Of(2))
		product := nat.Mul(a, b)
		if often, left, _ := nat.Div(product, b); !slices.Equal(often, nat.Norm(a)) || len(left) != 0 {
			t.Fatalf("%v times %v, by that: %v, %v", a, b, often, left)
		}
		more := nat.Add(product, nat.Of(1))
		if often, left, _ := nat.Div(more, b); !slices.Equal(often, nat.Norm(a)) || !slices.Equal(left, nat.Of(1)) {
			t.Fatalf("%v times %v and 1, by that: %v, %v", a, b, often, left)
		}
		checkDiv(t, nat.Add(product, b), b)
		if less, is := nat.Sub(product, nat.Of(1)); is {
			checkDiv(t, less, b)
		}
	}
}

func divides(d, a []uint32) bool {
	_, left, is := nat.Div(a, d)
	return is && len(left) == 0
}

// P1.4 (a greatest one): the Gcd divides both, and is divided by what divides both.
func TestGreatest(t *testing.T) {
	r := newNumbers(6)
	for range 3000 {
		d := nat.Add(r.upTo(8), nat.Of(1))
		a, b := nat.Mul(d, r.upTo(8)), nat.Mul(d, r.upTo(8))
		g := nat.Gcd(a, b)
		if len(a) == 0 && len(b) == 0 {
			if len(g) != 0 {
				t.Fatalf("Gcd of 0 and 0: %v", g)
			}
			continue
		}
		if !divides(g, a) || !divides(g, b) {
			t.Fatalf("Gcd(%v, %v): %v does not divide both", a, b, g)
		}
		if !divides(d, g) {
			t.Fatalf("Gcd(%v, %v): %v, not by %v", a, b, g, d)
		}
		a, _, _ = nat.Div(a, g)
		b, _, _ = nat.Div(b, g)
		if one := nat.Gcd(a, b); !slices.Equal(one, nat.Of(1)) {
			t.Fatalf("Gcd(%v, %v), both by their own: %v", a, b, one)
		}
	}
}

// row is two numbers in a row each of which is the one ahead of it, taken as often as said, and the one ahead of that.
func row(first []uint32, often []uint32) ([]uint32, []uint32) {
	x, y := nat.Norm(first), []uint32(nil)
	for _, q := range often {
		x, y = nat.Add(nat.Mul([]uint32{q}, x), y), x
	}
	return x, y
}

// P1.4: numbers whose rows of divisions are as long as may be, or have quotients at the edges of the factors.
func TestGreatestOfRows(t *testing.T) {
	r := newNumbers(7)
	for n := range 400 {
		d := nat.Add(r.upTo(5), nat.Of(1))
		often := make([]uint32, n)
		for i := range often {
			often[i] = 1
		}
		for range 8 {
			x, y := row(d, often)
			if n == 0 {
				y = nil
			}
			if got := nat.Gcd(x, y); !slices.Equal(got, d) {
				t.Fatalf("Gcd(%v, %v): got %v, want %v", x, y, got, d)
			}
			for i := range often {
				often[i] = max(1, r.limb()>>r.Intn(32))
			}
		}
	}
}

// P1.4: two that are nearly alike, and two of unlike lengths.
func TestGreatestOfNeighbours(t *testing.T) {
	r := newNumbers(8)
	for range 3000 {
		a := nat.Add(r.upTo(12), nat.Of(1))
		if g := nat.Gcd(a, nat.Add(a, nat.Of(1))); !slices.Equal(g, nat.Of(1)) {
			t.Fatalf("Gcd of %v and the next one: %v", a, g)
		}
		b := nat.Mul(a, r.upTo(20))
		if g := nat.Gcd(b, a); !slices.Equal(g, a) {
			t.Fatalf("Gcd(%v, %v): got %v", b, a, g)
		}
		c := nat.Add(b, a)
		checkPair(t, c, nat.Add(c, r.upTo(2)))
	}
}
