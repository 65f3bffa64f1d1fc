package lex

import (
	"strings"

	"tribunal/api"
)

// mark is what stands ahead of a variable's name.
const mark = "?"

// cut is which kind of token may begin with the first byte of s, and how many bytes it has; no bytes: none begins so.
func cut(s string) (int, int) {
	switch first := rune(s[0]); {
	case letter(first):
		return api.TokName, run(s, word)
	case first == '?':
		return api.TokVar, 1 + run(s[1:], word)
	case first == '\'':
		return api.TokValue, 1 + run(s[1:], word)
	case first == '"':
		return api.TokValue, quoted(s)
	case digit(first), first == '-' && begins(s[1:], digit):
		return api.TokValue, number(s)
	}
	return api.TokSign, sign(s)
}

// quoted is how many bytes of s, that begins with a quotation mark, go up to the next one; all, if there is none.
func quoted(s string) int {
	return min(2+run(s[1:], but('"')), len(s))
}

// number is how many bytes of s, that begins with a number, belong to it. Letters do too, so that no number ends where one stands.
func number(s string) int {
	n := 1 + run(s[1:], word)
	if behind, is := strings.CutPrefix(s[n:], "/"); is && begins(behind, digit) {
		n += 1 + run(behind, word)
	}
	return n
}

// sign is how many bytes the sign has with which s begins; 0: with none.
func sign(s string) int {
	for _, one := range []string{"<=", ">=", "!=", "(", ")", "+", "-", "*", "/", "<", ">", "="} {
		if strings.HasPrefix(s, one) {
			return len(one)
		}
	}
	return 0
}

// run is how many bytes it is at the beginning of s that things go on.
func run(s string, goes func(rune) bool) int {
	for i, r := range s {
		if !goes(r) {
			return i
		}
	}
	return len(s)
}

// begins tells whether s begins with such a rune.
func begins(s string, such func(rune) bool) bool { return s != "" && such(rune(s[0])) }

// but is all runes, but for one.
func but(one rune) func(rune) bool {
	return func(r rune) bool { return r != one }
}

func blank(r rune) bool { return r == ' ' || r == '\t' || r == '\n' || r == '\r' }

func letter(r rune) bool { return 'a' <= r && r <= 'z' }

func digit(r rune) bool { return '0' <= r && r <= '9' }

func word(r rune) bool { return letter(r) || digit(r) }
