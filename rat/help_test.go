package rat_test

import (
	"math/big"
	"math/rand"
	"regexp"
	"strings"
	"testing"

	"tribunal/api"
	"tribunal/rat"
)

const (
	most      = 1900 // bytes of a number's text
	mostOther = 900  // bytes of what Norm takes
)

// form is what Norm takes, as another one tells it.
var form = regexp.MustCompile(`^-?(0|[1-9][0-9]*)(/(0|[1-9][0-9]*))?$`)

// value is the number that a text is written for, as math/big has it; false: there is none.
func value(s string) (*big.Rat, bool) {
	_, down, broken := strings.Cut(s, "/")
	if !form.MatchString(s) || strings.HasSuffix(s, "\n") || broken && down == "0" {
		return nil, false
	}
	return new(big.Rat).SetString(s)
}

// of is the number of a text that has one.
func of(t testing.TB, s string) *big.Rat {
	t.Helper()
	n, is := value(s)
	if !is {
		t.Fatalf("%.60q is no number to math/big", s)
	}
	return n
}

// isRight tells, as math/big has it, whether s is a number's text that is not too long.
func isRight(s string) bool {
	n, is := value(s)
	return is && len(s) <= most && n.RatString() == s
}

// answer is a text, and an error.
type answer struct {
	s   string
	err api.Errno
}

func (a answer) String() string {
	return strings.Join([]string{brief(a.s), a.err.Error()}, ", ")
}

// brief is a text, cut if it is long.
func brief(s string) string {
	if len(s) > 80 {
		return s[:40] + ".." + s[len(s)-38:]
	}
	return s
}

// got is what a call has answered.
func got(s string, err api.Errno) answer { return answer{s, err} }

// told is what a call has to answer, whose number is n.
func told(n *big.Rat) answer {
	if s := n.RatString(); len(s) <= most {
		return answer{s, api.OK}
	}
	return answer{"", api.ErrTooMany}
}

// check fails, unless an answer is as it has to be.
func check(t *testing.T, what string, have, want answer) {
	t.Helper()
	if have != want {
		t.Fatalf("%s: got %v, want %v", what, have, want)
	}
}

// operation is a call of two numbers, as rat and as math/big has it.
type operation struct {
	name string
	call func(a, b string) (string, api.Errno)
	want func(z, a, b *big.Rat) *big.Rat
}

func operations() []operation {
	return []operation{
		{"Add", rat.Add, (*big.Rat).Add},
		{"Sub", rat.Sub, (*big.Rat).Sub},
		{"Mul", rat.Mul, (*big.Rat).Mul},
		{"Div", rat.Div, (*big.Rat).Quo},
	}
}

// checkPair holds all that two right texts come to against math/big.
func checkPair(t *testing.T, a, b string) {
	t.Helper()
	x, y := of(t, a), of(t, b)
	for _, o := range operations() {
		want := answer{"", api.ErrZero}
		if o.name != "Div" || y.Sign() != 0 {
			want = told(o.want(new(big.Rat), x, y))
		}
		check(t, o.name+" of "+brief(a)+" and "+brief(b), got(o.call(a, b)), want)
	}
	check(t, "Neg of "+brief(a), got(rat.Neg(a)), told(new(big.Rat).Neg(x)))
	check(t, "Sum of "+brief(a)+" and "+brief(b), got(rat.Sum([]string{a, b})), told(new(big.Rat).Add(x, y)))
	if c := rat.Cmp(a, b); c != x.Cmp(y) {
		t.Fatalf("Cmp of %s and %s: got %d, want %d", brief(a), brief(b), c, x.Cmp(y))
	}
}

// checkSum holds the sum of right texts against math/big.
func checkSum(t *testing.T, what string, l []string) {
	t.Helper()
	sum := new(big.Rat)
	for _, s := range l {
		sum.Add(sum, of(t, s))
	}
	check(t, what, got(rat.Sum(l)), told(sum))
}

// few is right texts: whole ones and others, below 0 and above, with and without common divisors of what stands behind "/", at the edges of nine digits, of a limb, and of two.
func few() []string {
	return []string{
		"0", "1", "-1", "2", "-2", "3", "10", "-10", "12", "-7", "100",
		"1/2", "-1/2", "3/2", "-3/2", "7/2", "1/3", "2/3", "-2/3", "4/3", "1/4", "3/4", "-3/4", "1/6", "5/6", "-5/6", "1/10", "1/12", "5/12", "-7/12", "9/10", "11/10",
		"999999999", "1000000000", "-1000000000", "1/999999999", "1/1000000000", "999999999/1000000000", "1000000000/999999999",
		"4294967295", "4294967296", "-4294967296", "1/4294967295", "-1/4294967296", "4294967295/4294967296", "4294967296/4294967295",
		"18446744073709551615", "18446744073709551616", "1/18446744073709551616", "-18446744073709551615/18446744073709551616", "18446744073709551617/4294967297000",
	}
}

// numbers makes right texts, the same ones each time.
type numbers struct{ *rand.Rand }

func newNumbers(seed int64) numbers { return numbers{rand.New(rand.NewSource(seed))} }

// decimals is a number above 0 of n digits.
func (r numbers) decimals(n int) string {
	text := make([]byte, n)
	for i := range text {
		text[i] = '0' + byte(r.Intn(10))
	}
	if text[0] == '0' {
		text[0] = '1' + byte(r.Intn(9))
	}
	return string(text)
}

// right is a right text of numbers of n digits at most; often one of few, or one with a denominator of few divisors.
func (r numbers) right(n int) string {
	s := r.decimals(1 + r.Intn(n))
	switch r.Intn(6) {
	case 0:
		return few()[r.Intn(len(few()))]
	case 1:
	case 2:
		s += "/" + []string{"2", "3", "4", "6", "8", "12", "60", "210", "720", "5040"}[r.Intn(10)]
	default:
		s += "/" + r.decimals(1+r.Intn(n))
	}
	if r.Intn(2) == 0 {
		s = "-" + s
	}
	number, _ := value(s)
	return number.RatString()
}

// ten is 10 to the power of n.
func ten(n int) string { return "1" + strings.Repeat("0", n) }

// nines is n nines.
func nines(n int) string { return strings.Repeat("9", n) }

// ofBytes is right texts of just n bytes, of all shapes. (What is made of nines has nothing in common with a power of ten.)
func ofBytes(n int) []string {
	half := n / 2
	return []string{
		ten(n - 1),
		nines(n),
		"-" + ten(n-2),
		"-" + nines(n-1),
		"1/" + ten(n-3),
		"-1/" + nines(n-3),
		nines(half) + "/" + ten(n-half-2),
		"-" + ten(half-1) + "/" + nines(n-half-2),
		nines(n-2) + "/2",
		"-" + nines(n-4) + "/10",
	}
}

// unreduced is what Norm takes, and is no number's text, with the text that it comes to.
func unreduced() map[string]string {
	return map[string]string{
		"-0": "0", "0/1": "0", "-0/1": "0", "0/2": "0", "0/7": "0", "-0/7": "0", "-0/1000": "0",
		"1/1": "1", "-1/1": "-1", "3/1": "3", "-3/1": "-3", "907/1": "907", "4294967296/1": "4294967296",
		"2/2": "1", "-2/2": "-1", "7/7": "1", "4/2": "2", "-6/3": "-2", "100/10": "10", "18446744073709551616/4294967296": "4294967296",
		"2/4": "1/2", "6/4": "3/2", "-6/4": "-3/2", "4/6": "2/3", "10/100": "1/10", "12/18": "2/3", "-35/49": "-5/7", "4294967296/18446744073709551616": "1/4294967296",
		ten(500) + "/" + ten(390): ten(110), ten(390) + "/" + ten(500): "1/" + ten(110), "-" + nines(400) + "/" + nines(400): "-1",
		"6" + strings.Repeat("0", 440) + "/4" + strings.Repeat("0", 440): "3/2",
	}
}

// byZero is what is written as divided by 0.
func byZero() []string {
	return []string{"1/0", "0/0", "-0/0", "-1/0", "7/0", "-12/0", "4294967296/0", nines(mostOther-2) + "/0"}
}

// formless is texts that Norm does not take, each of 900 bytes at most.
func formless() []string {
	all := []string{
		"", "-", "/", "-/", "//", "--", "-/-", "/1", "-/1", "1/", "-1/", "0/", "/0", "1//2", "1/2/", "/1/2", "1/2/3", "1/-2", "-1/-2", "1/+2", "+1/2", "1-/2", "1/2-", "1-2", "12-",
		"--1", "-+1", "+1", "+0", "+", "1+", "1-", "- 1", "-1 ", " -1", "−1", "–1",
		" ", " 1", "1 ", "1 2", "\t1", "1\n", "1/2\n", "\n1/2", "1/ 2", "1 /2", "1 / 2", " 1/2", "1/2 ", "1\r", "\u00a01",
		"00", "007", "01", "-00", "-01", "01/2", "-01/2", "1/02", "1/00", "0/00", "00/1", "-1/02", "1/007",
		"1.5", ".5", "1.", "1,5", "1_000", "1e3", "1E3", "0x1", "0b1", "0o7", "x", "a", "1a", "a1", "1/a", "a/1", "1/2a", "½", "1⁄2", "1:2", "1\\2", "(1)", "#1", "'1", "\"1\"", "NaN", "Inf", "-Inf",
		"\x00", "1\x00", "1/\x00", "1/2\x00", "\u0661", "1/\u0662", "\uff11", "\xff", "1\xff", "-\xff", "1/\xff", "\xc0\xb1", "\xb1", "1/\xb1",
		"0" + nines(mostOther-1), "-0" + nines(mostOther-2), nines(mostOther-1) + " ", "1/0" + nines(mostOther-3), nines(mostOther-1) + "/",
	}
	for b := range 256 {
		if b < '0' || b > '9' {
			all = append(all, "1/"+string([]byte{byte(b)}), string([]byte{byte(b)})+"/2", "1/2"+string([]byte{byte(b)}), "1/"+string([]byte{byte(b)})+"2", "-"+string([]byte{byte(b)})+"1")
			if b != '/' {
				all = append(all, "1"+string([]byte{byte(b)})+"2", "1"+string([]byte{byte(b)}))
			}
			if b != '-' {
				all = append(all, string([]byte{byte(b)})+"1")
			}
		}
	}
	return all
}

// tooFormless is texts of more than 1900 bytes, and of more than 900 alone, that Norm would not take if they were short.
func tooFormless() []string {
	var all []string
	for _, n := range []int{mostOther + 1, most + 1, 5 * most} {
		long := nines(n)
		all = append(all,
			"0"+long, "-0"+long, "+"+long, "--"+long, " "+long, long+" ", long+"\n", long+"a", long+".", long+"\xff", "\x00"+long,
			long+"/", "/"+long, long+"/0"+long, "0"+long+"/2", long+"/-2", long+"/2/3", long+"//2", "1/"+long+"-", "1/ "+long, "-/"+long,
			strings.Repeat("0", n), strings.Repeat("-", n), strings.Repeat("/", n), strings.Repeat("1/", n), strings.Repeat("\u0661", n))
	}
	return all
}

// wrong is texts that are no numbers': of another form, by 0, not reduced, or too long.
func wrong() []string {
	all := append(formless(), tooFormless()...)
	all = append(all, byZero()...)
	for s := range unreduced() {
		all = append(all, s)
	}
	return append(all, ofBytes(most+1)...)
}
