package rat_test

import (
	"slices"
	"strings"
	"testing"

	"tribunal/api"
	"tribunal/rat"
)

// P3: what Sum is handed is not changed, nor its spare room, nor kept; the answer does not change with it.
func TestSumLeavesAlone(t *testing.T) {
	r := newNumbers(14)
	lists := [][]string{nil, {"1/2"}, {"1", "x"}, {nines(most), "1"}, {"1/3", "1/2", "3", "-1/2"}}
	for range 300 {
		l := make([]string, r.Intn(12))
		for i := range l {
			l[i] = r.right(20)
		}
		lists = append(lists, l)
	}
	for _, l := range lists {
		roomy := append(slices.Clone(l), "5", "y", "7/2", "")
		before := slices.Clone(roomy)
		first := got(rat.Sum(roomy[:len(l)]))
		if !slices.Equal(roomy, before) {
			t.Fatalf("Sum of %v has changed it", l)
		}
		told := answer{strings.Clone(first.s), first.err}
		for i := range roomy {
			roomy[i] = "9/4"
		}
		check(t, "Sum, after a change", first, told)
		check(t, "Sum again", got(rat.Sum(l)), told)
	}
}

// P3: each call's answer hangs on its arguments alone, whatever was called ahead of it, wrong calls too.
func TestSameAgain(t *testing.T) {
	r := newNumbers(15)
	bad := wrong()
	for range 1000 {
		a, b := r.right(40), r.right(40)
		for _, o := range operations() {
			first := got(o.call(a, b))
			x := bad[r.Intn(len(bad))]
			o.call(x, b)
			o.call(a, x)
			rat.Norm(x)
			rat.Sum([]string{a, x})
			check(t, o.name+" of "+a+" and "+b+" again", got(o.call(a, b)), first)
		}
	}
}

// P1: any two texts end, without a panic, and as math/big has it.
func FuzzPair(f *testing.F) {
	for _, s := range append(few(), wrong()...) {
		f.Add(s, "-7/12")
		f.Add("3", s)
	}
	for _, s := range ofBytes(most) {
		f.Add(s, s)
	}
	f.Fuzz(func(t *testing.T, a, b string) {
		for _, s := range []string{a, b} {
			if got := rat.Right(s); got != isRight(s) {
				t.Fatalf("Right(%q): got %v", s, got)
			}
			check(t, "Norm of "+s, got(rat.Norm(s)), normed(s))
		}
		if isRight(a) && isRight(b) {
			checkPair(t, a, b)
			return
		}
		for _, o := range operations() {
			check(t, o.name+" of "+a+" and "+b, got(o.call(a, b)), answer{"", api.ErrArg})
		}
		check(t, "Sum of "+a+" and "+b, got(rat.Sum([]string{a, b})), answer{"", api.ErrArg})
		if rat.Cmp(a, b) != 0 {
			t.Fatalf("Cmp of %q and %q is not 0", a, b)
		}
	})
}

// P1: random bytes, most of them such as numbers are written with.
func TestAnyText(t *testing.T) {
	r := newNumbers(16)
	for range 50000 {
		text := make([]byte, r.Intn(9))
		for i := range text {
			text[i] = "0123456789-//12345"[r.Intn(18)]
			if r.Intn(40) == 0 {
				text[i] = byte(r.Intn(256))
			}
		}
		s := string(text)
		if got := rat.Right(s); got != isRight(s) {
			t.Fatalf("Right(%q): got %v", s, got)
		}
		check(t, "Norm of "+s, got(rat.Norm(s)), normed(s))
	}
}
