package digits_test

import (
	"slices"
	"strings"
	"testing"

	"tribunal/api"
	"tribunal/digits"
)

// roomy is a list with spare room, whose limbs there are not 0.
func roomy(a []uint32) []uint32 {
	l := append(slices.Clone(a), 11, 22, 33, 44)
	return l[:len(a)]
}

// spoil writes over a list, and its spare room.
func spoil(l []uint32) {
	l = l[:cap(l)]
	for i := range l {
		l[i] = 0xdeadbeef
	}
}

// P3: what Text is handed is not changed, nor its spare room; nor does that come into the answer, or the answer change with it.
func TestTextLeavesAlone(t *testing.T) {
	r := newNumbers(8)
	lists := [][]uint32{nil, {0}, {0, 0}, {5, 0}, {0, 0, 4}, {top, top, 0}}
	for range 500 {
		lists = append(lists, r.upTo(20))
	}
	for _, l := range lists {
		a := roomy(l)
		first := digits.Text(a)
		if !slices.Equal(a[:cap(a)], roomy(l)[:cap(a)]) {
			t.Fatalf("Text(%v) has changed it: %v", l, a[:cap(a)])
		}
		told := strings.Clone(first)
		spoil(a)
		if first != told || first != digits.Text(l) {
			t.Fatalf("Text(%v): first %q, then %q", l, told, first)
		}
	}
}

// P3: what Parse answers is new memory, with its spare room, and the next answer is the same.
func TestParseIsNew(t *testing.T) {
	r := newNumbers(9)
	texts := []string{"0", "1", "9", "999999999", "1000000000", "4294967295", "4294967296", strings.Repeat("9", most)}
	for range 500 {
		texts = append(texts, r.right(1+r.Intn(80)))
	}
	for _, s := range texts {
		first, err := digits.Parse(s)
		told := slices.Clone(first)
		spoil(first)
		other, _ := digits.Parse("8" + s[1:])
		spoil(other)
		again, wrong := digits.Parse(s)
		if err != api.OK || wrong != api.OK || !slices.Equal(again, told) {
			t.Fatalf("Parse(%q): first %v, %v, then %v, %v", s, told, err, again, wrong)
		}
	}
}

// P3: wrong calls leave nothing behind for the next one.
func TestAfterWrong(t *testing.T) {
	for _, s := range append(wrong(), tooWrong()...) {
		checkRefused(t, s, api.ErrForm)
		checkParse(t, "12345678901234567890")
		checkText(t, []uint32{5, 6, 7})
	}
}

// P1, P2: any text ends, without a panic; what is right, and that alone, is a number, or too long.
func FuzzParse(f *testing.F) {
	for _, s := range append(wrong(), tooWrong()...) {
		f.Add(s)
	}
	for _, n := range []int{1, 9, 10, 300, most, most + 1} {
		for _, s := range ofDigits(n) {
			f.Add(s)
		}
	}
	f.Fuzz(func(t *testing.T, s string) {
		switch right := s != "" && strings.Trim(s, "0123456789") == "" && (s[0] != '0' || len(s) == 1); {
		case right != digits.Right(s):
			t.Fatalf("Right(%q): got %v", s, !right)
		case !right:
			checkRefused(t, s, api.ErrForm)
		case len(s) > most:
			checkRefused(t, s, api.ErrTooMany)
		default:
			checkParse(t, s)
			checkBack(t, s)
		}
	})
}

// P1: random bytes, most of them near the digits.
func TestAnyText(t *testing.T) {
	r := newNumbers(10)
	for range 20000 {
		text := make([]byte, r.Intn(12))
		for i := range text {
			text[i] = byte('0' + r.Intn(10))
			if r.Intn(12) == 0 {
				text[i] = byte(r.Intn(256))
			}
		}
		s := string(text)
		if digits.Right(s) {
			checkBack(t, s)
		} else {
			checkRefused(t, s, api.ErrForm)
		}
	}
}
