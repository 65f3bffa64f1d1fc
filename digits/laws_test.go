package digits_test

import (
	"cmp"
	"slices"
	"strings"
	"testing"

	"tribunal/api"
	"tribunal/digits"
	"tribunal/nat"
)

// checkBack fails, unless right decimals are those of their number.
func checkBack(t *testing.T, s string) {
	t.Helper()
	a, err := digits.Parse(s)
	if err != api.OK {
		t.Fatalf("Parse(%q): got %v", s, err)
	}
	if got := digits.Text(a); got != s {
		t.Fatalf("%q is %v, and that is %q", s, a, got)
	}
}

// checkThere fails, unless a number is that of its decimals, which are right.
func checkThere(t *testing.T, a []uint32) {
	t.Helper()
	s := digits.Text(a)
	if !digits.Right(s) {
		t.Fatalf("Text(%v): %q is not right", a, s)
	}
	if got, err := digits.Parse(s); err != api.OK || !slices.Equal(got, short(a)) {
		t.Fatalf("%v is %q, and that is %v, %v", a, s, got, err)
	}
}

// P2.2 (there and back): right decimals of 1900 digits or fewer are those of their number.
func TestBack(t *testing.T) {
	r := newNumbers(3)
	for n := 1; n <= most; n += 1 + n/40 {
		for _, s := range ofDigits(n) {
			checkBack(t, s)
		}
		checkBack(t, r.right(n))
	}
	for range 50 {
		checkBack(t, r.right(most))
	}
	for _, s := range ofDigits(most) {
		checkBack(t, s)
	}
}

// P2.2: each number below 20000, and so its decimals.
func TestBackOfSmall(t *testing.T) {
	for n := range uint64(20000) {
		checkThere(t, nat.Of(n))
		checkBack(t, digits.Text(nat.Of(n)))
	}
}

// P2.2 (there and back): numbers of 190 limbs or fewer are those of their decimals, with limbs 0 at their end too.
func TestThere(t *testing.T) {
	checkThere(t, nil)
	for _, a := range powers(mostLimbs) {
		checkThere(t, a)
	}
	r := newNumbers(4)
	for range 3000 {
		checkThere(t, r.upTo(15))
	}
	for range 300 {
		checkThere(t, r.upTo(mostLimbs))
	}
	greatest := slices.Repeat([]uint32{top}, mostLimbs)
	checkThere(t, greatest)
	checkThere(t, append(greatest, 0, 0, 0))
	if n := len(digits.Text(greatest)); n > most {
		t.Fatalf("%d limbs have %d digits", mostLimbs, n)
	}
}

// checkOrder fails, unless the numbers of two right ones are in the order that their lengths and bytes tell.
func checkOrder(t *testing.T, s, u string) {
	t.Helper()
	a, err := digits.Parse(s)
	b, wrong := digits.Parse(u)
	if err != api.OK || wrong != api.OK {
		t.Fatalf("%q: %v; %q: %v", s, err, u, wrong)
	}
	want := cmp.Or(cmp.Compare(len(s), len(u)), strings.Compare(s, u))
	if got := nat.Cmp(a, b); got != want {
		t.Fatalf("%q and %q: got %d, want %d", s, u, got, want)
	}
}

// P2.3 (an order): the longer one is greater; of two as long, the one that is greater by bytes.
func TestOrder(t *testing.T) {
	var all []string
	for _, n := range []int{1, 2, 8, 9, 10, 11, 17, 18, 19, 20, 27, 28, 300} {
		all = append(all, ofDigits(n)...)
	}
	all = append(all, "4294967295", "4294967296", "4294967297", "18446744073709551615", "18446744073709551616")
	for _, s := range all {
		for _, u := range all {
			checkOrder(t, s, u)
		}
	}
	r := newNumbers(5)
	for range 1000 {
		n := 1 + r.Intn(60)
		checkOrder(t, r.right(n), r.right(n))
		checkOrder(t, r.right(n), r.right(1+r.Intn(60)))
	}
	for range 20 {
		checkOrder(t, r.right(most), r.right(most))
		checkOrder(t, r.right(most), r.right(most-1))
	}
}

// P2.3: two that are alike but for one digit, wherever it stands.
func TestOrderOfOneDigit(t *testing.T) {
	r := newNumbers(6)
	for _, n := range []int{1, 9, 10, 40, most} {
		for range 100 {
			s := []byte(r.right(n))
			u := slices.Clone(s)
			u[r.Intn(n)] = '1' + byte(r.Intn(9))
			checkOrder(t, string(s), string(u))
		}
	}
}

// P2.3: as sums tell it: the next number's decimals are greater, and one longer after nines alone.
func TestOrderOfNext(t *testing.T) {
	r := newNumbers(7)
	for range 500 {
		a := r.upTo(20)
		s, next := digits.Text(a), digits.Text(nat.Add(a, nat.Of(1)))
		if len(next) < len(s) || len(next) == len(s) && next <= s {
			t.Fatalf("%q is next to %q", next, s)
		}
	}
	for n := 1; n <= 100; n++ {
		a, _ := digits.Parse(strings.Repeat("9", n))
		if got, want := digits.Text(nat.Add(a, nat.Of(1))), "1"+strings.Repeat("0", n); got != want {
			t.Fatalf("%d nines and 1: got %q", n, got)
		}
	}
}
