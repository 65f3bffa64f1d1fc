package rat_test

import (
	"math/big"
	"slices"
	"strings"
	"testing"

	"tribunal/api"
	"tribunal/rat"
)

// P3.1 (C1): Right, of numbers' texts.
func TestRight(t *testing.T) {
	r := newNumbers(1)
	all := few()
	for range 2000 {
		all = append(all, r.right(40))
	}
	for n := 20; n <= most; n += 97 {
		all = append(all, ofBytes(n)...)
	}
	for _, s := range all {
		if !isRight(s) || !rat.Right(s) {
			t.Fatalf("%s: got %v, want %v", brief(s), rat.Right(s), isRight(s))
		}
	}
}

// P3.1 (C1): Right, of texts of another form, by 0, that are not reduced, or too long.
func TestNotRight(t *testing.T) {
	for _, s := range wrong() {
		if isRight(s) || rat.Right(s) {
			t.Errorf("%q is right", brief(s))
		}
	}
}

// P3.1 (C1): 1900 bytes are not too many; 1901 are, though it is a number's text but for that.
func TestRightOfMost(t *testing.T) {
	for n := most - 3; n <= most+3; n++ {
		for _, s := range ofBytes(n) {
			if len(s) != n || of(t, s).RatString() != s {
				t.Fatalf("%s is not such a text", brief(s))
			}
			if got := rat.Right(s); got != (n <= most) {
				t.Errorf("%s, of %d bytes: got %v", brief(s), n, got)
			}
		}
	}
	if rat.Right(nines(1000000)) || rat.Right("1/"+nines(1000000)) {
		t.Error("a million digits are right")
	}
}

// P3.1 (C1): of all texts of five bytes or fewer of these, those are right that are, and Norm tells of each what it is.
func TestRightAndNormOfFewBytes(t *testing.T) {
	texts, last := []string{""}, []string{""}
	for range 5 {
		var longer []string
		for _, s := range last {
			for _, more := range []string{"-", "/", "0", "1", "2", "4", "6"} {
				longer = append(longer, s+more)
			}
		}
		texts = append(texts, longer...)
		last = longer
	}
	for _, s := range texts {
		if got := rat.Right(s); got != isRight(s) {
			t.Fatalf("Right(%q): got %v", s, got)
		}
		check(t, "Norm of "+s, got(rat.Norm(s)), normed(s))
	}
}

// normed is what Norm has to answer.
func normed(s string) answer {
	n, is := value(s)
	switch {
	case !form.MatchString(s):
		return answer{"", api.ErrForm}
	case len(s) > mostOther:
		return answer{"", api.ErrTooMany}
	case !is:
		return answer{"", api.ErrZero}
	}
	return answer{n.RatString(), api.OK}
}

// P3.1 (C1): Norm, of what is reduced already, and of what is not.
func TestNorm(t *testing.T) {
	for _, s := range few() {
		check(t, "Norm of "+s, got(rat.Norm(s)), answer{s, api.OK})
	}
	for s, want := range unreduced() {
		check(t, "Norm of "+brief(s), got(rat.Norm(s)), answer{want, api.OK})
	}
	r := newNumbers(2)
	for range 3000 {
		common := r.decimals(1 + r.Intn(30))
		s := times(r.decimals(1+r.Intn(40)), common) + "/" + times(r.decimals(1+r.Intn(40)), common)
		if r.Intn(2) == 0 {
			s = "-" + s
		}
		check(t, "Norm of "+s, got(rat.Norm(s)), normed(s))
	}
}

// times is the product of whole numbers.
func times(a, b string) string {
	x, _ := new(big.Int).SetString(a, 10)
	y, _ := new(big.Int).SetString(b, 10)
	return x.Mul(x, y).String()
}

// P3.1 (C1), P2: Norm takes 900 bytes, and 901 are ErrTooMany, whatever they would come to.
func TestNormOfMost(t *testing.T) {
	for n := mostOther - 3; n <= mostOther+3; n++ {
		twos := "2" + strings.Repeat("0", n-5)
		for _, s := range append(ofBytes(n), twos+"/200", "-"+twos+"/40", "0/"+nines(n-2), "-0/"+ten(n-4), ten(n-3)+"/1", ten(n-3)+"/0", "-1/"+twos+"0") {
			check(t, "Norm of "+brief(s), got(rat.Norm(s)), normed(s))
		}
	}
	for _, s := range []string{nines(most), nines(most + 1), nines(2 * most), "0/" + nines(most), nines(1000000) + "/0"} {
		check(t, "Norm of "+brief(s), got(rat.Norm(s)), answer{"", api.ErrTooMany})
	}
}

// P3.1 (C1), P2: what has another form is ErrForm, also if it is too long, or by 0 besides; that is ErrZero which is by 0 alone.
func TestNormOfWrong(t *testing.T) {
	for _, s := range append(formless(), tooFormless()...) {
		check(t, "Norm of "+brief(s), got(rat.Norm(s)), answer{"", api.ErrForm})
	}
	for _, s := range []string{"01/0", "-/0", "1/00", " 1/0", "1/0/0", "1/-0", "+1/0", "a/0"} {
		check(t, "Norm of "+s, got(rat.Norm(s)), answer{"", api.ErrForm})
	}
	for _, s := range byZero() {
		check(t, "Norm of "+brief(s), got(rat.Norm(s)), answer{"", api.ErrZero})
	}
}

// P3.1 (C2, C3): all pairs of few.
func TestPairsOfFew(t *testing.T) {
	for _, a := range few() {
		for _, b := range few() {
			checkPair(t, a, b)
		}
	}
}

// P3.1 (C2, C3): longer ones, up to texts of 1900 bytes.
func TestPairs(t *testing.T) {
	r := newNumbers(3)
	for range 4000 {
		checkPair(t, r.right(30), r.right(30))
	}
	for range 80 {
		checkPair(t, r.right(900), r.right(900))
	}
	for range 25 {
		a, b := r.right(900), r.right(900)
		for _, s := range []string{a, b} {
			if turned := over(s); turned != "" {
				checkPair(t, a, turned)
				checkPair(t, turned, b)
			}
		}
	}
}

// over is 1 by a number, if that is not 0.
func over(s string) string {
	n, _ := value(s)
	if n.Sign() == 0 {
		return ""
	}
	return n.Inv(n).RatString()
}

// P3.1 (C2, C3): what becomes whole, and 0, and what is reduced by some of what both denominators have.
func TestReduced(t *testing.T) {
	for i, c := range []struct {
		have answer
		want string
	}{
		{got(rat.Add("1/2", "1/2")), "1"},
		{got(rat.Add("-1/2", "1/2")), "0"},
		{got(rat.Sub("-1/2", "-1/2")), "0"},
		{got(rat.Add("3/2", "-7/2")), "-2"},
		{got(rat.Add("1/6", "1/3")), "1/2"},
		{got(rat.Add("1/6", "1/10")), "4/15"},
		{got(rat.Sub("1/6", "2/3")), "-1/2"},
		{got(rat.Sub("1/12", "1/4")), "-1/6"},
		{got(rat.Add("1/12", "5/12")), "1/2"},
		{got(rat.Mul("2/3", "3/2")), "1"},
		{got(rat.Mul("-2/3", "9/4")), "-3/2"},
		{got(rat.Mul("-2/3", "0")), "0"},
		{got(rat.Mul("-2/3", "-6")), "4"},
		{got(rat.Div("-6", "4")), "-3/2"},
		{got(rat.Div("6", "-4")), "-3/2"},
		{got(rat.Div("-6", "-3")), "2"},
		{got(rat.Div("0", "-3")), "0"},
		{got(rat.Div("3/4", "9/8")), "2/3"},
		{got(rat.Neg("0")), "0"},
		{got(rat.Neg("-3/2")), "3/2"},
		{got(rat.Neg("7")), "-7"},
	} {
		if c.have != (answer{c.want, api.OK}) {
			t.Errorf("%d: got %v, want %s", i, c.have, c.want)
		}
	}
}

// P3.1 (C3): answers of 1900 bytes are told; those of more are ErrTooMany.
func TestAnswersOfMost(t *testing.T) {
	less := "-" + nines(most-1)
	for i, c := range []struct {
		have answer
		size int
	}{
		{got(rat.Add(nines(most-1), "1")), most},
		{got(rat.Add(nines(most), "1")), most + 1},
		{got(rat.Add("-"+nines(most-2), "-1")), most},
		{got(rat.Add(less, "-1")), most + 1},
		{got(rat.Sub("-"+nines(most-2), "1")), most},
		{got(rat.Sub(less, "1")), most + 1},
		{got(rat.Sub(nines(most), "-1")), most + 1},
		{got(rat.Add(ten(most-3), "1/2")), most},
		{got(rat.Add(ten(most-2), "1/2")), most + 1},
		{got(rat.Add("1/"+ten(948), "1/"+nines(948))), 949 + 1 + 948 + 949},
		{got(rat.Mul(ten(949), ten(950))), most},
		{got(rat.Mul(ten(950), ten(950))), most + 1},
		{got(rat.Mul("-"+ten(949), ten(949))), most},
		{got(rat.Mul("-"+ten(949), ten(950))), most + 1},
		{got(rat.Mul("-"+ten(949), "-"+ten(950))), most},
		{got(rat.Mul("1/"+ten(948), "1/"+ten(949))), most},
		{got(rat.Mul("1/"+ten(949), "1/"+ten(949))), most + 1},
		{got(rat.Mul(ten(most-1), ten(most-1))), 2*most - 1},
		{got(rat.Mul("1/"+nines(most-2), "1/"+nines(most-2))), 2*most - 2},
		{got(rat.Div("1", ten(most-3))), most},
		{got(rat.Div("1", ten(most-2))), most + 1},
		{got(rat.Div("-1", ten(most-4))), most},
		{got(rat.Div("1", "-"+ten(most-3))), most + 1},
		{got(rat.Div(nines(949), ten(949))), most},
		{got(rat.Div(nines(950), ten(949))), most + 1},
		{got(rat.Div("1/"+ten(1000), ten(1000))), 2003},
		{got(rat.Neg(nines(most - 1))), most},
		{got(rat.Neg(nines(most))), most + 1},
		{got(rat.Neg("1/" + ten(most-4))), most},
		{got(rat.Neg("1/" + ten(most-3))), most + 1},
		{got(rat.Neg(less)), most - 1},
	} {
		if c.size > most {
			check(t, "answer of too many bytes", c.have, answer{"", api.ErrTooMany})
		} else if c.have.err != api.OK || len(c.have.s) != c.size || !isRight(c.have.s) {
			t.Errorf("%d: got %v, of %d bytes, want %d", i, c.have, len(c.have.s), c.size)
		}
	}
}

// P3.1 (C2, C3): right texts of 1900 bytes, with one another, and with short ones.
func TestPairsOfMost(t *testing.T) {
	all := ofBytes(most)
	for _, a := range all {
		for _, b := range all {
			checkPair(t, a, b)
		}
		for _, b := range []string{"0", "1", "-1", "2", "1/2", "-3/2"} {
			checkPair(t, a, b)
			checkPair(t, b, a)
		}
	}
}

// P3.1 (C3): long numbers whose answers are short.
func TestLongComeShort(t *testing.T) {
	a, b := nines(940)+"/"+ten(940), ten(949)+"/"+nines(949)
	for i, c := range []struct {
		have answer
		want string
	}{
		{got(rat.Sub(a, a)), "0"},
		{got(rat.Div(b, b)), "1"},
		{got(rat.Mul(a, over(a))), "1"},
		{got(rat.Div(ten(most-1), ten(most-1))), "1"},
		{got(rat.Div(ten(most-1), ten(most-2))), "10"},
		{got(rat.Sub(ten(most-1), nines(most-1))), "1"},
		{got(rat.Mul(ten(most-1), "1/"+ten(most-3))), "100"},
		{got(rat.Div("1/"+nines(most-3), "-1/"+nines(most-3))), "-1"},
	} {
		if c.have != (answer{c.want, api.OK}) {
			t.Errorf("%d: got %v, want %s", i, c.have, c.want)
		}
	}
}

// P3.1 (C2, C3), P2: with one that is not right, beside 0 too, Cmp is 0, and all others are ErrArg.
func TestWrongOperands(t *testing.T) {
	beside := []string{"0", "1", "-3/2", "", "x"}
	for i, s := range wrong() {
		if i%50 == 0 {
			beside[3] = nines(most - i/50)
		}
		for _, b := range beside {
			for _, o := range operations() {
				check(t, o.name+" of "+brief(s)+" and "+brief(b), got(o.call(s, b)), answer{"", api.ErrArg})
				check(t, o.name+" of "+brief(b)+" and "+brief(s), got(o.call(b, s)), answer{"", api.ErrArg})
			}
			if rat.Cmp(s, b) != 0 || rat.Cmp(b, s) != 0 {
				t.Fatalf("Cmp of %s and %s is not 0", brief(s), brief(b))
			}
		}
		check(t, "Neg of "+brief(s), got(rat.Neg(s)), answer{"", api.ErrArg})
	}
}

// P3.1 (C3), P2: a division by 0 is ErrZero, of all right ones; of others it is ErrArg.
func TestDivByZero(t *testing.T) {
	for _, s := range append(few(), ofBytes(most)...) {
		check(t, "Div of "+brief(s)+" by 0", got(rat.Div(s, "0")), answer{"", api.ErrZero})
	}
	for _, zero := range []string{"-0", "00", "0/1", "0/2", "+0", " 0", "0.0", ""} {
		check(t, "Div of 1 by "+zero, got(rat.Div("1", zero)), answer{"", api.ErrArg})
	}
	check(t, "Div of 2/4 by 0", got(rat.Div("2/4", "0")), answer{"", api.ErrArg})
}

// P3.1: the errors are these numbers.
func TestErrors(t *testing.T) {
	for want, have := range map[api.Errno]answer{
		1:  got(rat.Add("1", "2/4")),
		2:  got(rat.Neg(nines(most))),
		12: got(rat.Norm("007")),
		21: got(rat.Norm("7/0")),
	} {
		check(t, "an error", have, answer{"", want})
	}
	check(t, "Sum", got(rat.Sum([]string{"1", "2/4"})), answer{"", 1})
	check(t, "Sum", got(rat.Sum([]string{nines(most), "1"})), answer{"", 2})
	check(t, "Norm", got(rat.Norm(nines(mostOther+1))), answer{"", 2})
	check(t, "Div", got(rat.Div("7", "0")), answer{"", 21})
}

// P3.1 (C4): Sum, of none, of one, and of some.
func TestSum(t *testing.T) {
	check(t, "Sum of none", got(rat.Sum(nil)), answer{"0", api.OK})
	check(t, "Sum of none", got(rat.Sum([]string{})), answer{"0", api.OK})
	for _, s := range append(few(), ofBytes(most)...) {
		check(t, "Sum of "+brief(s), got(rat.Sum([]string{s})), answer{s, api.OK})
	}
	check(t, "Sum", got(rat.Sum([]string{"1/2", "1/3", "1/6"})), answer{"1", api.OK})
	check(t, "Sum", got(rat.Sum([]string{"1/2", "1/2", "1/2"})), answer{"3/2", api.OK})
	check(t, "Sum", got(rat.Sum([]string{"0", "0", "0"})), answer{"0", api.OK})
	checkSum(t, "Sum of few", few())
	r := newNumbers(4)
	for range 600 {
		l := make([]string, r.Intn(30))
		for i := range l {
			l[i] = r.right(12)
		}
		checkSum(t, "Sum of "+strings.Join(l, " "), l)
	}
}

// P3.1 (C4): Sum, of many, with many a denominator, and with few.
func TestSumOfMany(t *testing.T) {
	var row, ones []string
	for n := 2; n <= 3000; n++ {
		whole := new(big.Int).SetInt64(int64(n)).String()
		row = append(row, "1/"+whole)
		ones = append(ones, whole)
	}
	checkSum(t, "1/2 to 1/3000", row)
	checkSum(t, "2 to 3000", ones)
	checkSum(t, "both", append(ones, row...))
	check(t, "many halves", got(rat.Sum(slices.Repeat([]string{"1/2"}, 20001))), answer{"20001/2", api.OK})
	check(t, "many, there and back", got(rat.Sum(slices.Repeat([]string{"1/2", "-1/3", "-1/2", "1/3"}, 5000))), answer{"0", api.OK})
}

// inOrders calls f with some texts in each order.
func inOrders(l []string, f func([]string)) {
	var order func(n int)
	order = func(n int) {
		if n == len(l) {
			f(slices.Clone(l))
		}
		for i := n; i < len(l); i++ {
			l[n], l[i] = l[i], l[n]
			order(n + 1)
			l[n], l[i] = l[i], l[n]
		}
	}
	order(0)
}

// P3.1 (C4): however long a sum of some is, that of all is told, if it is not too long; in each order.
func TestSumOfSomeTooLong(t *testing.T) {
	p, q := nines(1800), ten(1800)
	for _, c := range []struct {
		all  []string
		want string
	}{
		{[]string{nines(most), "1", "-1"}, nines(most)},
		{[]string{nines(most), nines(most), "-" + nines(most-1), "-" + ten(most-2), "-" + ten(most-2)}, ""},
		{[]string{"-" + nines(most-1), "-1", "-1/2", "2"}, ""},
		{[]string{"1/" + p, "1/" + q, "-1/" + p, "-1/" + q, "5/7"}, "5/7"},
		{[]string{"1/" + p, "1/" + q, "1/" + nines(1799), "-1/" + p, "-1/" + q}, "1/" + nines(1799)},
	} {
		inOrders(c.all, func(l []string) {
			if c.want != "" {
				check(t, "Sum", got(rat.Sum(l)), answer{c.want, api.OK})
			}
			checkSum(t, "Sum", l)
		})
	}
	check(t, "Sum of some", got(rat.Sum([]string{"1/" + p, "1/" + q})), answer{"", api.ErrTooMany})
}

// P3.1 (C4): a great sum of unlike denominators goes away by parts, with long sums on the way.
func TestSumGoesAway(t *testing.T) {
	r := newNumbers(5)
	l := []string{"3/8"}
	for range 60 {
		n := r.right(850)
		minus, _ := rat.Neg(n)
		l = append(l, n, minus)
	}
	r.Shuffle(len(l), func(i, j int) { l[i], l[j] = l[j], l[i] })
	check(t, "Sum", got(rat.Sum(l)), answer{"3/8", api.OK})
	check(t, "Sum with a long one", got(rat.Sum(append(l, nines(most-2)))), answer{"", api.ErrTooMany})
	check(t, "Sum with a long one", got(rat.Sum(append(l, nines(most-3)))), answer{"7" + nines(most-4) + "5/8", api.OK})
}

// P3.1 (C4): sums of 1900 bytes are told; of more they are ErrTooMany, also where they have very many.
func TestSumOfMost(t *testing.T) {
	for _, l := range [][]string{
		{nines(most - 1), "1"}, {nines(most), "1"}, {nines(most), "1/2"}, {ten(most - 3), "1/2"}, {ten(most - 2), "1/2"},
		{"-" + nines(most-2), "-1"}, {"-" + nines(most-1), "-1"}, {ten(most - 1), "1", "1"},
		{"1/" + nines(950), "1/" + ten(949)}, {"1/" + nines(475), "1/" + ten(475)}, {"1/" + nines(900), "1/" + ten(900), "1/7"},
		slices.Repeat([]string{nines(most)}, 9), slices.Repeat([]string{nines(most - 1)}, 10), slices.Repeat([]string{nines(most - 1)}, 11),
	} {
		checkSum(t, "Sum", l)
	}
	var l []string
	r := newNumbers(6)
	for range 100 {
		l = append(l, "1/"+r.decimals(300))
	}
	check(t, "Sum of unlike ones", got(rat.Sum(l)), answer{"", api.ErrTooMany})
}

// P3.1 (C4), P2: with one that is not right, wherever it stands, Sum is ErrArg, also if it is too long besides.
func TestSumOfWrong(t *testing.T) {
	for _, s := range wrong() {
		for _, l := range [][]string{{s}, {s, "1"}, {"1", s}, {"1", s, "1/2"}, {nines(most), "1", s}, {s, nines(most), "1"}} {
			check(t, "Sum with "+brief(s), got(rat.Sum(l)), answer{"", api.ErrArg})
		}
	}
}
