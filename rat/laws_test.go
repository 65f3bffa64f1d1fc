package rat_test

import (
	"math/big"
	"slices"
	"testing"

	"tribunal/api"
	"tribunal/rat"
)

// sure is an answer of a call that has to be OK.
func sure(t *testing.T) func(string, api.Errno) string {
	return func(s string, err api.Errno) string {
		t.Helper()
		if err != api.OK {
			t.Fatalf("got %v", err)
		}
		return s
	}
}

// checkField fails, unless three numbers, whose answers are all short enough, keep a field's laws.
func checkField(t *testing.T, a, b, c string) {
	t.Helper()
	is := sure(t)
	for what, two := range map[string][2]string{
		"a+b":     {is(rat.Add(a, b)), is(rat.Add(b, a))},
		"a*b":     {is(rat.Mul(a, b)), is(rat.Mul(b, a))},
		"a+b+c":   {is(rat.Add(is(rat.Add(a, b)), c)), is(rat.Add(a, is(rat.Add(b, c))))},
		"a*b*c":   {is(rat.Mul(is(rat.Mul(a, b)), c)), is(rat.Mul(a, is(rat.Mul(b, c))))},
		"a*(b+c)": {is(rat.Mul(a, is(rat.Add(b, c)))), is(rat.Add(is(rat.Mul(a, b)), is(rat.Mul(a, c))))},
		"a+0":     {is(rat.Add(a, "0")), a},
		"a*1":     {is(rat.Mul(a, "1")), a},
		"a*0":     {is(rat.Mul(a, "0")), "0"},
		"a-a":     {is(rat.Sub(a, a)), "0"},
		"a+-a":    {is(rat.Add(a, is(rat.Neg(a)))), "0"},
		"--a":     {is(rat.Neg(is(rat.Neg(a)))), a},
		"a-b":     {is(rat.Sub(a, b)), is(rat.Add(a, is(rat.Neg(b))))},
		"a-b+b":   {is(rat.Add(is(rat.Sub(a, b)), b)), a},
		"a+b-b":   {is(rat.Sub(is(rat.Add(a, b)), b)), a},
		"sum":     {is(rat.Sum([]string{a, b, c})), is(rat.Add(is(rat.Add(a, b)), c))},
	} {
		if two[0] != two[1] {
			t.Fatalf("%s of %s, %s, %s: %s, %s", what, a, b, c, two[0], two[1])
		}
	}
	if b == "0" {
		return
	}
	for what, back := range map[string]string{
		"a/b*b":     is(rat.Mul(is(rat.Div(a, b)), b)),
		"a*b/b":     is(rat.Div(is(rat.Mul(a, b)), b)),
		"a*(1/b)*b": is(rat.Mul(is(rat.Mul(a, is(rat.Div("1", b)))), b)),
	} {
		if back != a {
			t.Fatalf("%s of %s, %s: %s", what, a, b, back)
		}
	}
}

// P3.2 (a field): sums and products go in any order, and products over sums; what is taken away, or divided by, goes back.
func TestField(t *testing.T) {
	short := few()[:30]
	for _, a := range short {
		for _, b := range short {
			for _, c := range []string{"0", "-3/2", "-1/4294967296"} {
				checkField(t, a, b, c)
			}
		}
	}
	r := newNumbers(7)
	for range 1000 {
		checkField(t, r.right(25), r.right(25), r.right(25))
	}
	for range 30 {
		checkField(t, r.right(180), r.right(180), r.right(180))
	}
}

// P3.2: in either order also where it is too long.
func TestOrderOfLong(t *testing.T) {
	r := newNumbers(8)
	long := 0
	for range 120 {
		a, b := r.right(600), r.right(600)
		for _, call := range []func(string, string) (string, api.Errno){rat.Add, rat.Mul} {
			one := got(call(a, b))
			check(t, brief(a)+" and "+brief(b), got(call(b, a)), one)
			if one.err == api.ErrTooMany {
				long++
			}
		}
	}
	if long == 0 {
		t.Fatal("none was too long")
	}
}

// P3.2, P3.1 (C4): a sum is the same in any order, and by parts.
func TestSumInAnyOrder(t *testing.T) {
	r := newNumbers(9)
	is := sure(t)
	for range 300 {
		l := make([]string, 1+r.Intn(20))
		for i := range l {
			l[i] = r.right(20)
		}
		all := is(rat.Sum(l))
		at := r.Intn(len(l))
		if parts := is(rat.Add(is(rat.Sum(l[:at])), is(rat.Sum(l[at:])))); parts != all {
			t.Fatalf("%v: %s, by parts %s", l, all, parts)
		}
		r.Shuffle(len(l), func(i, j int) { l[i], l[j] = l[j], l[i] })
		if again := is(rat.Sum(l)); again != all {
			t.Fatalf("%v: %s, in another order %s", l, again, all)
		}
	}
}

// P3.3 (one text): two that are written in any way are the same number just if their texts are.
func TestOneText(t *testing.T) {
	is := sure(t)
	whole := func(n int) string { return big.NewInt(int64(n)).String() }
	type fraction struct {
		up, down int
		text     string
	}
	var all []fraction
	for up := -12; up <= 12; up++ {
		for down := 1; down <= 12; down++ {
			s := is(rat.Norm(whole(up) + "/" + whole(down)))
			if !rat.Right(s) {
				t.Fatalf("%d/%d: %s is not right", up, down, s)
			}
			all = append(all, fraction{up, down, s})
		}
	}
	for _, x := range all {
		for _, y := range all {
			same := x.up*y.down == y.up*x.down
			if same != (x.text == y.text) || same != (rat.Cmp(x.text, y.text) == 0) {
				t.Fatalf("%d/%d is %s, and %d/%d is %s", x.up, x.down, x.text, y.up, y.down, y.text)
			}
		}
	}
}

// P3.3: whichever way a number comes about, it has the same text; and what is right is the text of its own.
func TestSameText(t *testing.T) {
	r := newNumbers(10)
	is := sure(t)
	for range 2000 {
		a, b := r.right(30), r.right(30)
		for _, s := range []string{is(rat.Add(a, b)), is(rat.Mul(a, b)), is(rat.Sub(a, b)), is(rat.Neg(a)), is(rat.Sum([]string{a, b, a}))} {
			if !rat.Right(s) || is(rat.Norm(s)) != s || is(rat.Add(s, "0")) != s || is(rat.Div(s, "1")) != s {
				t.Fatalf("%s, that came of %s and %s, is not its own text", s, a, b)
			}
		}
		if same := a == b; same != (is(rat.Sub(a, b)) == "0") || same != (rat.Cmp(a, b) == 0) {
			t.Fatalf("%s and %s: the same, or not?", a, b)
		}
	}
}

// P3.3: of one number that is written in unlike ways one alone is right.
func TestOneIsRight(t *testing.T) {
	for s, want := range unreduced() {
		if rat.Right(s) || !rat.Right(want) {
			t.Errorf("%s is right, or %s is not", brief(s), brief(want))
		}
	}
}

// P3.4 (an order): of a sorted row each is less than those behind it, and only these.
func TestOrder(t *testing.T) {
	r := newNumbers(11)
	all := few()
	for range 120 {
		all = append(all, r.right(30))
	}
	all = append(all, ofBytes(500)...)
	sorted := make([]*big.Rat, len(all))
	for i, s := range all {
		sorted[i] = of(t, s)
	}
	slices.SortFunc(sorted, (*big.Rat).Cmp)
	sorted = slices.CompactFunc(sorted, func(a, b *big.Rat) bool { return a.Cmp(b) == 0 })
	for i, a := range sorted {
		for j, b := range sorted {
			want := max(-1, min(1, i-j))
			if c := rat.Cmp(a.RatString(), b.RatString()); c != want {
				t.Fatalf("Cmp of %s and %s: got %d, want %d", brief(a.RatString()), brief(b.RatString()), c, want)
			}
		}
	}
}

// P3.4: it goes the other way round the other way, and on from one to the next.
func TestOrderGoesOn(t *testing.T) {
	r := newNumbers(12)
	for range 3000 {
		a, b, c := r.right(6), r.right(6), r.right(6)
		if rat.Cmp(a, b) != -rat.Cmp(b, a) {
			t.Fatalf("%s and %s: not the other way round", a, b)
		}
		if rat.Cmp(a, b) <= 0 && rat.Cmp(b, c) <= 0 && rat.Cmp(a, c) > 0 {
			t.Fatalf("%s, %s, %s: not in order", a, b, c)
		}
		if rat.Cmp(a, a) != 0 {
			t.Fatalf("%s is not as great as itself", a)
		}
	}
}

// P3.4: sums keep it; products with what is above 0 too, and with what is below 0 it turns.
func TestSumsKeepOrder(t *testing.T) {
	r := newNumbers(13)
	is := sure(t)
	for range 3000 {
		a, b, c := r.right(20), r.right(20), r.right(20)
		want := rat.Cmp(a, b)
		if got := rat.Cmp(is(rat.Add(a, c)), is(rat.Add(b, c))); got != want {
			t.Fatalf("%s and %s: %d; with %s: %d", a, b, want, c, got)
		}
		if got := rat.Cmp(is(rat.Sub(a, b)), "0"); got != want {
			t.Fatalf("%s and %s: %d; what is between: %d", a, b, want, got)
		}
		if got := rat.Cmp(is(rat.Mul(a, c)), is(rat.Mul(b, c))); got != want*rat.Cmp(c, "0") {
			t.Fatalf("%s and %s: %d; times %s: %d", a, b, want, c, got)
		}
	}
}

// P3.4: neighbours, of which one is hardly less, however long they are.
func TestOrderOfNeighbours(t *testing.T) {
	for _, n := range []int{1, 2, 9, 10, 30, 400, 940} {
		less, more := nines(n)+"/"+ten(n), ten(n)+"/"+nines(n)
		for _, two := range [][2]string{
			{less, "1"}, {"1", more}, {less, more}, {"-" + more, "-" + less}, {"-" + less, less}, {"-1", "-" + less},
			{nines(n), ten(n)}, {"-" + ten(n), "-" + nines(n)}, {"1/" + ten(n), "1/" + nines(n)}, {"-1/" + nines(n), "-1/" + ten(n)},
			{"0", "1/" + ten(n)}, {"-1/" + ten(n), "0"},
		} {
			if rat.Cmp(two[0], two[1]) != -1 || rat.Cmp(two[1], two[0]) != 1 {
				t.Errorf("%s is not less than %s", brief(two[0]), brief(two[1]))
			}
		}
	}
}
