package lex_test

import (
	"strings"
	"testing"

	"tribunal/api"
	"tribunal/lex"
)

// checkBack fails, unless the tokens of what Join makes of tokens are these, but for their places.
func checkBack(t *testing.T, l []api.Token) {
	t.Helper()
	s := lex.Join(l)
	got, at, err := lex.Lex(s)
	if err != api.OK || at != 0 || !same(got, l) {
		t.Fatalf("%v is joined as %q, whose tokens are %v, %d, %d", few(l), brief(s), few(got), at, err)
	}
	for i, one := range got {
		if want := len(lex.Join(l[:i])) + min(1, i); one.At != want {
			t.Fatalf("%q: token %d at %d, want %d", brief(s), i, one.At, want)
		}
	}
}

// P9.2 (there and back): of a text of each kind of token, and of each two, with blanks between and with none.
func TestThereAndBack(t *testing.T) {
	checkBack(t, nil)
	for _, a := range kinds() {
		checkBack(t, []api.Token{a})
		for _, b := range kinds() {
			checkBack(t, []api.Token{a, b})
			if l, err := check(t, bytesOf(a)+bytesOf(b)); err == api.OK {
				checkBack(t, l)
			}
			l, _ := check(t, "\n"+bytesOf(a)+"\t \r"+bytesOf(b)+" ")
			checkBack(t, l)
		}
	}
}

// P9.2: of any text that has tokens.
func TestThereAndBackOfAny(t *testing.T) {
	m := newMaker(3)
	many := 0
	for range 40000 {
		s := m.any()
		l, err := check(t, s)
		if err != api.OK {
			continue
		}
		checkBack(t, l)
		if len(l) > 1 {
			many++
		}
	}
	if many < 5000 {
		t.Errorf("only %d had tokens", many)
	}
}

// P9.2: signs that were apart do not come together, and numbers, which had none, have a blank between.
func TestApart(t *testing.T) {
	for s, want := range map[string]string{
		"< =":       "< =",
		"<\n=":      "< =",
		"<=":        "<=",
		"- 1":       "- 1",
		"-1":        "-1",
		"1 / 2":     "1 / 2",
		"1/2":       "1/2",
		"1/ 2":      "1 / 2",
		"1/2/3":     "1/2 / 3",
		"a 'b":      "a 'b",
		"a'b":       "a 'b",
		"a  b":      "a b",
		`"a"  "b"`:  `"a" "b"`,
		`"a""b"`:    `"a" "b"`,
		`"a  b"`:    `"a  b"`,
		"(-3/2 ?x)": "( -3/2 ?x )",
		"--1":       "- -1",
		"---1":      "- - -1",
		"true x":    "true x",
		"truex":     "truex",
		"!==":       "!= =",
	} {
		l, err := check(t, s)
		if got := lex.Join(l); got != want || err != api.OK {
			t.Errorf("%q: got %q, want %q", s, got, want)
		}
		checkBack(t, l)
	}
}

// P9.2: of a text as long as may be; what Join makes of its tokens is no longer here.
func TestThereAndBackOfMost(t *testing.T) {
	for _, unit := range []string{"( ", "a ", "-1 ", "<= ", `"  " `, "'a ", "?a ", "none "} {
		s := times(unit, 8000/len(unit))
		l, err := check(t, s)
		if err != api.OK || len(l) != 8000/len(unit) || lex.Join(l) != strings.TrimSuffix(s, " ") {
			t.Errorf("%q: %d tokens, %d", brief(s), len(l), err)
		}
		checkBack(t, l)
	}
	l, _ := check(t, times("(", 4000))
	checkBack(t, l)
	l, _ = check(t, times("(", 8000))
	// A text of more bytes than Lex takes, though its tokens are those of one that is not.
	checkTooMany(t, lex.Join(l))
}

// P9.3 (blanks): more of them where one stands, or at an end, change nothing but places.
func TestMoreBlanks(t *testing.T) {
	m := newMaker(4)
	for range 8000 {
		l := m.list(7)
		s := m.spread(l)
		checkTokens(t, s, l...)
		checkMoreBlanks(t, m, s)
	}
}

// P9.3: in texts most of whose tokens have no blank between.
func TestMoreBlanksOfAny(t *testing.T) {
	m := newMaker(5)
	for range 20000 {
		checkMoreBlanks(t, m, m.any())
	}
}

// checkMoreBlanks fails, unless s, with more blanks at one place that has one, or at an end, has the same tokens, or the same error at what is now the same place.
func checkMoreBlanks(t *testing.T, m maker, s string) {
	t.Helper()
	l, at, err := lex.Lex(s)
	for _, place := range gapsOf(s, l, at, err) {
		more := m.of(" \t\n\r", 1+m.Intn(4))
		longer := s[:place] + more + s[place:]
		got, gotAt, gotErr := lex.Lex(longer)
		if !same(got, l) || gotErr != err {
			t.Fatalf("%q has %v, %d, and %q has %v, %d", s, l, err, longer, got, gotErr)
		}
		for i := range got {
			if want := moved(l[i].At, place, len(more)); got[i].At != want {
				t.Fatalf("%q: token %d at %d, want %d", longer, i, got[i].At, want)
			}
		}
		if err != api.OK && gotAt != moved(at, place, len(more)) {
			t.Fatalf("%q: wrong at %d, and %q at %d", s, at, longer, gotAt)
		}
	}
}

// moved is where what stood at a place stands, with more bytes put in.
func moved(at, place, more int) int {
	if at >= place {
		return at + more
	}
	return at
}

// gapsOf is the places of s at which more blanks may stand: its ends, and where it has one ahead of its tokens, behind them, or between; of a text that is none only up to what is wrong.
func gapsOf(s string, l []api.Token, at int, err api.Errno) []int {
	end := len(s)
	if err != api.OK {
		end = at
		l = nil
		// Those ahead of what is wrong stand in a text that is one.
		if ahead, _, wrong := lex.Lex(s[:at]); wrong == api.OK {
			l = ahead
		}
	}
	inside := make(map[int]int)
	for _, one := range l {
		for i := range bytesOf(one) {
			inside[one.At+i]++
		}
	}
	places := []int{0}
	for i := range end {
		if inside[i] == 0 {
			places = append(places, i, i+1)
		}
	}
	if err == api.OK {
		places = append(places, end)
	}
	return places
}

// P9.3: blanks of each sort are as good as another one.
func TestEachBlank(t *testing.T) {
	m := newMaker(6)
	for range 3000 {
		l := m.list(6)
		parts := make([]string, len(l))
		for i, one := range l {
			parts[i] = bytesOf(one)
		}
		for _, gap := range gaps() {
			checkTokens(t, strings.Join(parts, gap), l...)
			checkTokens(t, gap+strings.Join(parts, gap)+gap, l...)
		}
	}
}

// P9.3: blanks in a text between quotation marks are its own.
func TestBlanksInTexts(t *testing.T) {
	for n := range 100 {
		checkTokens(t, `"`+times(" ", n)+`a"`, val(`"`+times(" ", n)+`a"`))
	}
	checkTokens(t, `"a b" "a  b"`, val(`"a b"`), val(`"a  b"`))
	checkWrong(t, "\"a\tb\"", 0)
	checkWrong(t, "\"a\nb\"", 0)
	checkWrong(t, "a\"a\rb\"", 1)
}
