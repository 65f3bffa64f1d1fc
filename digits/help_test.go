package digits_test

import (
	"math/big"
	"math/rand"
	"slices"
	"strings"
	"testing"

	"tribunal/api"
	"tribunal/digits"
)

const (
	top       = 1<<32 - 1
	most      = 1900 // digits that a text may have
	mostLimbs = 190  // limbs whose decimals are always few enough
)

// number is a's as math/big has it: all results are held against that package's.
func number(a []uint32) *big.Int {
	n := new(big.Int)
	for i := len(a) - 1; i >= 0; i-- {
		n.Add(n.Lsh(n, 32), big.NewInt(int64(a[i])))
	}
	return n
}

// short is a without limbs 0 at its end.
func short(a []uint32) []uint32 {
	for len(a) > 0 && a[len(a)-1] == 0 {
		a = a[:len(a)-1]
	}
	return a
}

// checkText holds Text's answer against math/big's.
func checkText(t *testing.T, a []uint32) {
	t.Helper()
	if got, want := digits.Text(a), number(a).String(); got != want {
		t.Fatalf("Text(%v): got %q, want %q", a, got, want)
	}
}

// checkParse holds Parse's answer for right decimals that are not too many against math/big's.
func checkParse(t *testing.T, s string) {
	t.Helper()
	want, is := new(big.Int).SetString(s, 10)
	if !is {
		t.Fatalf("%q is no number to math/big", s)
	}
	got, err := digits.Parse(s)
	if err != api.OK {
		t.Fatalf("Parse(%q): got %v", s, err)
	}
	if len(got) > 0 && got[len(got)-1] == 0 {
		t.Fatalf("Parse(%q): %v is not in short", s, got)
	}
	if number(got).Cmp(want) != 0 {
		t.Fatalf("Parse(%q): got %v", s, got)
	}
}

// checkRefused fails, unless Parse answers nothing and that error.
func checkRefused(t *testing.T, s string, want api.Errno) {
	t.Helper()
	if got, err := digits.Parse(s); err != want || len(got) != 0 {
		t.Fatalf("Parse(%.60q), of %d bytes: got %v, %v, want nothing and %v", s, len(s), got, err, want)
	}
}

// numbers makes limbs and decimals, the same ones each time, many of them at the edges.
type numbers struct{ *rand.Rand }

func newNumbers(seed int64) numbers { return numbers{rand.New(rand.NewSource(seed))} }

func (r numbers) limb() uint32 {
	edges := []uint32{0, 1, 999999999, 1000000000, 1000000001, 1 << 31, top - 1, top}
	if r.Intn(2) == 0 {
		return edges[r.Intn(len(edges))]
	}
	return r.Uint32() >> r.Intn(32)
}

// upTo is a list of n limbs at most, perhaps with limbs 0 at its end.
func (r numbers) upTo(n int) []uint32 {
	l := make([]uint32, r.Intn(n+1))
	for i := range l {
		l[i] = r.limb()
	}
	return append(l, make([]uint32, r.Intn(3))...)
}

// right is right decimals of n digits, often with rows of noughts or nines.
func (r numbers) right(n int) string {
	text := make([]byte, n)
	for i := 0; i < n; {
		digit, row := byte(r.Intn(10)), 1
		if r.Intn(4) == 0 {
			digit, row = []byte{0, 0, 1, 9}[r.Intn(4)], 1+r.Intn(20)
		}
		for ; row > 0 && i < n; row-- {
			text[i] = '0' + digit
			i++
		}
	}
	if text[0] == '0' && n > 1 {
		text[0] = '1' + byte(r.Intn(9))
	}
	return string(text)
}

// ofDigits is decimals of n digits at the edges: the least ones, the greatest, and their neighbours.
func ofDigits(n int) []string {
	if n == 1 {
		return []string{"0", "1", "2", "8", "9"}
	}
	return []string{
		"1" + strings.Repeat("0", n-1),
		"1" + strings.Repeat("0", n-2) + "1",
		"1" + strings.Repeat("9", n-1),
		"2" + strings.Repeat("0", n-1),
		strings.Repeat("9", n-1) + "8",
		strings.Repeat("9", n),
	}
}

// powers is numbers whose topmost limb alone is not 0, and such as are one less than a power of two, of n limbs at most; some have limbs 0 at their end.
func powers(n int) [][]uint32 {
	var all [][]uint32
	for limbs := range n {
		zeros := make([]uint32, limbs)
		all = append(all,
			append(slices.Clone(zeros), 1),
			append(slices.Clone(zeros), 1<<31),
			append(slices.Clone(zeros), top),
			slices.Repeat([]uint32{top}, limbs+1),
			append(slices.Repeat([]uint32{top}, limbs), 0, 0))
	}
	return all
}

// wrong is texts that are no right decimals, none of them of more than 1900 bytes.
func wrong() []string {
	all := []string{
		"", "00", "007", "01", "0000000000", "0000000001", "00000000000000000000",
		"+1", "-1", "-0", "+0", "+", "-", "1-", "1+", "12-3",
		" ", " 1", "1 ", "1 2", "\t1", "1\n", "\n", "1\r", "\u00a01", "1\u2003",
		"1.0", "1,000", "1_000", "1e3", "0x10", "0b1", "0o7", "x", "a", "f", "1a", "a1", "1/2", "'1", "\"1\"", "NaN", "Inf",
		"/", ":", "0/", "0:", "1/", "9:", "\x00", "1\x00", "\x001", "\x7f",
		"\u0661", "1\u0661", "\uff11\uff12", "\u00b2", "\u2460", "\u0967", "\U0001d7ce", "\u00bd", "\u4e00", "\ufeff1", "1\u0301",
		"\xff", "1\xff", "\xff1", "1\xff2", "\xc0\xb1", "\xe0\x80\xb1", "\xf0\x80\x80\xb1", "\xb1", "\x80", "1\x80", "\xc3", "12\xc3", "\xed\xa0\x80", "\xf4\x90\x80\x80", "1\xf0\x9d\x9f", "\ufffd",
		"0" + strings.Repeat("1", most-1), strings.Repeat("0", most), strings.Repeat("1", most-1) + " ", "-" + strings.Repeat("1", most-1),
	}
	for b := range 256 {
		if b < '0' || b > '9' {
			all = append(all, string([]byte{byte(b)}), string([]byte{'1', byte(b)}), string([]byte{byte(b), '1'}), string([]byte{'1', byte(b), '2'}))
		}
	}
	return all
}

// tooWrong is texts of more than 1900 bytes that are wrong as well.
func tooWrong() []string {
	ones := strings.Repeat("1", most)
	return []string{
		"0" + ones, "00" + ones, strings.Repeat("0", most+1), strings.Repeat("0", 3*most),
		"-" + ones, "+" + ones, " " + ones, ones + " ", ones + "\n", ones + "a", ones + ".", ones + "\x00", ones + "\xff", "\xff" + ones, ones + "\u0661",
		ones[:most/2] + "_" + ones[:most/2], ones + ones + ones + "-",
		strings.Repeat("\u0661", most), strings.Repeat("\xb1", most+1), strings.Repeat(" ", most+1),
	}
}
