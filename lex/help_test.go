package lex_test

import (
	"math/big"
	"math/rand"
	"regexp"
	"slices"
	"strings"
	"testing"

	"tribunal/api"
	"tribunal/lex"
)

// Pieces of a text, as another one tells them: where a token begins, what belongs to it, and what has to be so of that.
var (
	blanks = regexp.MustCompile(`\A[ \t\n\r]*`)
	shapes = []shape{
		{regexp.MustCompile(`\A[a-z][a-z0-9]*`), shortName, api.TokName, 0},
		{regexp.MustCompile(`\A\?[a-z][a-z0-9]*`), shortName, api.TokVar, 1},
		{regexp.MustCompile(`\A'[a-z][a-z0-9]*`), shortName, api.TokValue, 0},
		{regexp.MustCompile(`\A"[^"]*"`), regexp.MustCompile(`\A"[ !#-~]{0,100}"\z`).MatchString, api.TokValue, 0},
		{regexp.MustCompile(`\A-?[0-9]+(?:/[0-9]+)?[a-z0-9]*`), isNumber, api.TokValue, 0},
		{regexp.MustCompile(`\A(?:[<>!]=|[-()+*/<>=])`), always, api.TokSign, 0},
	}
)

// shape is what tokens of a kind look like, what has to be so of them, and how many bytes stand ahead of what they are.
type shape struct {
	form  *regexp.Regexp
	right func(string) bool
	kind  int
	ahead int
}

func always(string) bool { return true }

func shortName(s string) bool { return len(strings.TrimLeft(s, "?'")) <= 24 }

var decimals = regexp.MustCompile(`\A-?[0-9]+(?:/[0-9]+)?\z`)

// isNumber tells whether s is the text of a number, as math/big has it.
func isNumber(s string) bool {
	if len(s) > 300 || !decimals.MatchString(s) {
		return false
	}
	n, is := new(big.Rat).SetString(s)
	return is && n.RatString() == s
}

// lexed is what Lex has to answer, the tokens, the place and the error.
func lexed(s string) ([]api.Token, int, api.Errno) {
	if len(s) > 8000 {
		return nil, 8000, api.ErrTooMany
	}
	var l []api.Token
	for at := 0; ; {
		at += len(blanks.FindString(s[at:]))
		if at == len(s) {
			return l, 0, api.OK
		}
		t, size := first(s[at:])
		if size == 0 {
			return nil, at, api.ErrForm
		}
		t.At = at
		l = append(l, t)
		at += size
	}
}

// first is the token with which s begins, and how many bytes it has; none, if there is none.
func first(s string) (api.Token, int) {
	for _, is := range shapes {
		piece := is.form.FindString(s)
		switch {
		case piece == "":
			continue
		case !is.right(piece):
			return api.Token{}, 0
		case piece == "true" || piece == "false" || piece == "none":
			return val(piece), len(piece)
		}
		return api.Token{Kind: is.kind, S: piece[is.ahead:]}, len(piece)
	}
	return api.Token{}, 0
}

// joined is what Join has to answer.
func joined(l []api.Token) string {
	s := ""
	for i, t := range l {
		if i > 0 {
			s += " "
		}
		s += bytesOf(t)
	}
	return s
}

// bytesOf is how a token stands in a text.
func bytesOf(t api.Token) string {
	if t.Kind == 2 {
		return "?" + t.S
	}
	return t.S
}

// placeless is tokens, without their places.
func placeless(l []api.Token) []api.Token {
	l = slices.Clone(l)
	for i := range l {
		l[i].At = 0
	}
	return l
}

// same tells whether both are the same tokens, but for their places.
func same(l, m []api.Token) bool { return slices.Equal(placeless(l), placeless(m)) }

func name(s string) api.Token     { return api.Token{Kind: api.TokName, S: s} }
func variable(s string) api.Token { return api.Token{Kind: api.TokVar, S: s} }
func val(s string) api.Token      { return api.Token{Kind: api.TokValue, S: s} }
func sign(s string) api.Token     { return api.Token{Kind: api.TokSign, S: s} }

// times is s, n times.
func times(s string, n int) string { return strings.Repeat(s, n) }

// brief is a text, cut if it is long.
func brief(s string) string {
	if len(s) > 100 {
		return s[:50] + ".." + s[len(s)-48:]
	}
	return s
}

// check fails, unless Lex answers of s what it has to; the answer.
func check(t *testing.T, s string) ([]api.Token, api.Errno) {
	t.Helper()
	l, at, err := lex.Lex(s)
	want, wantAt, wantErr := lexed(s)
	if !slices.Equal(l, want) || at != wantAt || err != wantErr {
		t.Fatalf("%q: got %v, %d, %d, want %v, %d, %d", brief(s), few(l), at, err, few(want), wantAt, wantErr)
	}
	return l, err
}

// few is the first ones of tokens.
func few(l []api.Token) []api.Token { return l[:min(len(l), 20)] }

// checkTokens fails, unless s has just those tokens, wherever they stand.
func checkTokens(t *testing.T, s string, want ...api.Token) {
	t.Helper()
	l, err := check(t, s)
	if err != api.OK || !same(l, want) {
		t.Fatalf("%q: got %v, %d, want %v", brief(s), few(l), err, few(want))
	}
}

// checkWrong fails, unless s is no tokens' text, for what stands at a place.
func checkWrong(t *testing.T, s string, place int) {
	t.Helper()
	check(t, s)
	if l, at, err := lex.Lex(s); len(l) != 0 || at != place || err != api.ErrForm {
		t.Fatalf("%q: got %v, %d, %d, want no token, %d, %d", brief(s), few(l), at, err, place, api.ErrForm)
	}
}

// kinds is tokens of each kind, with the edges.
func kinds() []api.Token {
	all := []api.Token{
		name("a"), name("z9"), name("red"), name("template"), name("truex"), name("nonea"), name("tru"), name("false0"), name("n"), name(times("a", 24)), name("z" + times("9", 23)),
		variable("a"), variable("x1"), variable("true"), variable("none"), variable(times("b", 24)),
		val("none"), val("true"), val("false"), val("'a"), val("'true"), val("'none"), val("'r2d2"), val("'" + times("c", 24)),
		val("0"), val("7"), val("-1"), val("-3/2"), val("1/2"), val("10"), val(times("9", 300)), val("-" + times("7", 299)), val("1/" + times("3", 298)), val("-1000000000"),
		val(`""`), val(`" "`), val(`"a, b"`), val(`"?x"`), val(`"'"`), val(`"(<="`), val(`"{#1}!&"`), val(`"-1"`), val(`"` + times("~", 100) + `"`),
	}
	for _, s := range signs() {
		all = append(all, sign(s))
	}
	return all
}

func signs() []string {
	return []string{"(", ")", "+", "-", "*", "/", "<", "<=", ">", ">=", "=", "!="}
}

// gaps is what may stand between tokens: each sort of blank, and more of them.
func gaps() []string {
	return []string{" ", "\t", "\n", "\r", "  ", "\r\n", " \t\n\r ", times(" ", 50), "\n\n\n"}
}

// maker makes texts, the same ones each time.
type maker struct {
	*rand.Rand
	tokens []api.Token
}

func newMaker(seed int64) maker { return maker{rand.New(rand.NewSource(seed)), kinds()} }

// of is n bytes out of those.
func (m maker) of(bytes string, n int) string {
	s := make([]byte, n)
	for i := range s {
		s[i] = bytes[m.Intn(len(bytes))]
	}
	return string(s)
}

// token is one of some kind.
func (m maker) token() api.Token {
	switch m.Intn(8) {
	case 0:
		return name(m.of("abt", 1) + "q" + m.of("ab09", m.Intn(4)))
	case 1:
		return variable(m.of("xyz", 1) + m.of("ab09", m.Intn(3)))
	case 2:
		return val(big.NewRat(m.Int63n(200)-100, 1+m.Int63n(9)).RatString())
	case 3:
		return val(`"` + m.of("ab (?'1/-=", m.Intn(6)) + `"`)
	case 4, 5:
		return sign(signs()[m.Intn(12)])
	}
	return m.tokens[m.Intn(len(m.tokens))]
}

// list is some tokens.
func (m maker) list(most int) []api.Token {
	l := make([]api.Token, m.Intn(most+1))
	for i := range l {
		l[i] = m.token()
	}
	return l
}

// spread is a text of tokens, with a blank at least between any two, and some at both ends.
func (m maker) spread(l []api.Token) string {
	s := m.of(" \t\n\r", m.Intn(3))
	for _, t := range l {
		s += bytesOf(t) + m.of(" \t\n\r", 1+m.Intn(3))
	}
	return s
}

// dense is a text of tokens, most of them without a blank between.
func (m maker) dense(l []api.Token) string {
	s := ""
	for _, t := range l {
		s += bytesOf(t) + m.of(" \t\n\r", max(0, m.Intn(5)-3))
	}
	return s
}

// any is a text such as may be tokens', or nearly.
func (m maker) any() string {
	switch m.Intn(3) {
	case 0:
		return m.of("ab01?'\"\"-/ \n<=>!()+*TZ#{}\x00\xff", m.Intn(16))
	case 1:
		s := m.dense(m.list(6))
		at := m.Intn(len(s) + 1)
		return s[:at] + m.of("aB1?'\"-/ !=#\x7f\xc3", m.Intn(2)) + s[min(len(s), at+m.Intn(2)):]
	}
	return m.dense(m.list(8))
}
