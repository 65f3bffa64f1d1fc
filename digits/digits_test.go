package digits_test

import (
	"slices"
	"strings"
	"testing"

	"tribunal/api"
	"tribunal/digits"
)

// P2.1 (B1): Text, of 0, of limbs 0 at the end, and at the edges of nine digits and of a limb.
func TestText(t *testing.T) {
	for _, c := range []struct {
		a    []uint32
		want string
	}{
		{nil, "0"},
		{[]uint32{}, "0"},
		{[]uint32{0}, "0"},
		{[]uint32{0, 0, 0}, "0"},
		{[]uint32{7}, "7"},
		{[]uint32{10}, "10"},
		{[]uint32{907, 0, 0}, "907"},
		{[]uint32{999999999}, "999999999"},
		{[]uint32{1000000000}, "1000000000"},
		{[]uint32{1000000001, 0}, "1000000001"},
		{[]uint32{top}, "4294967295"},
		{[]uint32{0, 1}, "4294967296"},
		{[]uint32{0, 1, 0, 0}, "4294967296"},
		{[]uint32{0xa7640000, 0xde0b6b3}, "1000000000000000000"},
		{[]uint32{0xa763ffff, 0xde0b6b3}, "999999999999999999"},
		{[]uint32{top, top}, "18446744073709551615"},
		{[]uint32{0, 0, 1}, "18446744073709551616"},
	} {
		if got := digits.Text(c.a); got != c.want {
			t.Errorf("Text(%v): got %q, want %q", c.a, got, c.want)
		}
	}
}

// P2.1 (B1): Text, held against math/big, of numbers longer than MaxLimbs too.
func TestTexts(t *testing.T) {
	for _, a := range powers(250) {
		checkText(t, a)
	}
	r := newNumbers(1)
	for range 5000 {
		checkText(t, r.upTo(12))
	}
	for range 300 {
		checkText(t, r.upTo(250))
	}
	checkText(t, r.upTo(2000))
}

// P2.1 (B1): Text's decimals of powers of ten and their neighbours, where noughts within are lost most easily.
func TestTextKeepsNoughts(t *testing.T) {
	for n := 1; n <= 60; n++ {
		for _, s := range ofDigits(n) {
			a, err := digits.Parse(s)
			if got := digits.Text(a); err != api.OK || got != s {
				t.Fatalf("%q is %v, %v, and that is %q", s, a, err, got)
			}
		}
	}
	for _, s := range []string{"1000000000000000000000000000", "5000000007000000000000000011", "900000000900000000090"} {
		a, _ := digits.Parse(s)
		if got := digits.Text(a); got != s {
			t.Errorf("%q is %v, and that is %q", s, a, got)
		}
	}
}

// P2.1 (B1): Right, of decimals of any length.
func TestRight(t *testing.T) {
	for n := 1; n <= most+5; n += 1 + n/30 {
		for _, s := range ofDigits(n) {
			if !digits.Right(s) {
				t.Fatalf("%q is not right", s)
			}
		}
	}
	for _, s := range []string{"0", "1", "10", "100", "9", "1234567890", "900", strings.Repeat("9", most+1), strings.Repeat("1", 100000)} {
		if !digits.Right(s) {
			t.Errorf("%.60q is not right", s)
		}
	}
}

// P2.1 (B1): a nought ahead of others, signs, blanks, other bytes, no right UTF-8, and nothing at all are not right.
func TestWrong(t *testing.T) {
	for _, s := range append(wrong(), tooWrong()...) {
		if digits.Right(s) {
			t.Errorf("%.60q is right", s)
		}
	}
}

// P2.1 (B1): of all texts of three bytes or fewer of these, those are right that are.
func TestRightOfFew(t *testing.T) {
	few := []string{"", "0", "1", "9", "/", ":", "-", " ", "\xff", "\u0660"}
	for _, a := range few {
		for _, b := range few {
			for _, c := range few {
				s := a + b + c
				want := s != "" && strings.Trim(s, "0123456789") == "" && (s[0] != '0' || len(s) == 1)
				if got := digits.Right(s); got != want {
					t.Errorf("Right(%q): got %v", s, got)
				}
			}
		}
	}
}

// P2.1 (B2): Parse.
func TestParse(t *testing.T) {
	for _, c := range []struct {
		s    string
		want []uint32
	}{
		{"0", nil},
		{"1", []uint32{1}},
		{"907", []uint32{907}},
		{"999999999", []uint32{999999999}},
		{"1000000000", []uint32{1000000000}},
		{"1000000001", []uint32{1000000001}},
		{"4294967295", []uint32{top}},
		{"4294967296", []uint32{0, 1}},
		{"4294967301", []uint32{5, 1}},
		{"999999999999999999", []uint32{0xa763ffff, 0xde0b6b3}},
		{"1000000000000000000", []uint32{0xa7640000, 0xde0b6b3}},
		{"18446744073709551615", []uint32{top, top}},
		{"18446744073709551616", []uint32{0, 0, 1}},
	} {
		if got, err := digits.Parse(c.s); err != api.OK || !slices.Equal(got, c.want) {
			t.Errorf("Parse(%q): got %v, %v, want %v", c.s, got, err, c.want)
		}
	}
}

// P2.1 (B2): Parse, held against math/big, of each count of digits up to 1900.
func TestParses(t *testing.T) {
	r := newNumbers(2)
	for n := 1; n <= 100; n++ {
		for _, s := range ofDigits(n) {
			checkParse(t, s)
		}
		for range 20 {
			checkParse(t, r.right(n))
		}
	}
	for n := 101; n <= most; n += 7 {
		checkParse(t, r.right(n))
	}
}

// P2.1 (B2): 1900 digits are not too many; 1901 are.
func TestMost(t *testing.T) {
	for n := most - 10; n <= most; n++ {
		for _, s := range ofDigits(n) {
			checkParse(t, s)
		}
	}
	for n := most + 1; n <= most+10; n++ {
		for _, s := range ofDigits(n) {
			checkRefused(t, s, api.ErrTooMany)
		}
	}
	checkRefused(t, strings.Repeat("7", 1000000), api.ErrTooMany)
}

// P2.1 (B2), P2: what is not right is ErrForm, and nothing.
func TestForm(t *testing.T) {
	for _, s := range wrong() {
		checkRefused(t, s, api.ErrForm)
	}
}

// P2: a text that is both wrong and too long is ErrForm, which Parse's words name first.
func TestFormFirst(t *testing.T) {
	for _, s := range tooWrong() {
		checkRefused(t, s, api.ErrForm)
	}
}

// P2.1 (B2): the errors are these numbers.
func TestErrors(t *testing.T) {
	if _, err := digits.Parse("007"); err != 12 {
		t.Errorf("got %v, want 12", err)
	}
	if _, err := digits.Parse(strings.Repeat("7", most+1)); err != 2 {
		t.Errorf("got %v, want 2", err)
	}
}
