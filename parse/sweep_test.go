package parse_test

import (
	"slices"
	"testing"

	"tribunal/api"
	"tribunal/lex"
)

// samples is texts of programs: each kind of item, condition, action and expression, with as little as it may have, and with much.
func samples() []string {
	return []string{
		"(template a)",
		"(template order (by sym) (total num) (what text) (paid bool))",
		"(template template (rule num) (as bool))",
		"(rule r 0 () ())",
		"(rule rule -1000 ((a)) ((halt)))",
		"(rule r 1000 ((a (x 1) (y ?y) (z none)) (b)) ((assert a) (assert b (x ?y) (if (+ 1 ?y)))))",
		"(rule r 1 ((as ?f (a)) (as ?not (not (as 'as)))) ((retract ?f) (modify ?not) (modify ?f (x 1) (y (* ?x ?x)))))",
		"(rule r -1 ((not (a)) (not (if (x true))) (if <= 1 ?x) (if != (/ 1 2) (- ?x \"a b\"))) ((print -1/2) (print (+ (+ 1 2) (+ ?x 4)))))",
		"(rule r 7 ((let ?v count ?x () ()) (let ?v sum ?x (?y ?z) ((a) (let ?w let ?z (?z) ((not (let))))))) ((halt) (halt)))",
		"(template a (x num)) (rule r 0 ((a (x ?x))) ((print ?x))) (template b) (rule s 0 () ())",
	}
}

// checkChanged fails, unless Parse tells what it has to of tokens with each one left out, put in twice, in the place of which another one stands, or ahead of which one does.
func checkChanged(t *testing.T, l []api.Token, others []api.Token) {
	t.Helper()
	for i := range l {
		check(t, lex.Join(slices.Delete(slices.Clone(l), i, i+1)))
		check(t, lex.Join(slices.Insert(slices.Clone(l), i, l[i])))
		for _, other := range others {
			changed := slices.Clone(l)
			changed[i] = other
			check(t, lex.Join(changed))
			check(t, lex.Join(slices.Insert(slices.Clone(l), i, other)))
		}
	}
}

// P11.1: of each kind, each token left out, put in twice, in the place of another one, or ahead of one: which is the first wrong one.
func TestEveryToken(t *testing.T) {
	for _, s := range samples() {
		if _, _, err := check(t, s); err != api.OK {
			t.Fatalf("%s: got %d", s, err)
		}
		checkChanged(t, tokens(t, s), kinds())
	}
}

// P11.1: with the last tokens of one item left out, the text's end is wrong, blanks and line feeds there counted.
func TestCutTokens(t *testing.T) {
	for _, s := range samples()[:9] {
		l := tokens(t, s)
		for i := 1; i < len(l); i++ {
			for _, blanks := range []string{"", " ", "\n", " \n\n\t\r "} {
				cut := s[:l[i].At] + blanks
				checkPlace(t, cut, len(cut), api.ErrForm)
				cut = lex.Join(l[:i]) + blanks
				checkPlace(t, cut, len(cut), api.ErrForm)
			}
		}
	}
}

// P11.1: texts cut behind each of their bytes.
func TestCutBytes(t *testing.T) {
	for _, s := range samples() {
		for i := range s {
			check(t, s[:i])
			check(t, s[:i]+" \n")
			check(t, s[i:])
		}
	}
}

// P11.1: behind a program's tokens one more is wrong, but for what may begin another item; that is not there whole.
func TestOneMore(t *testing.T) {
	for _, s := range append(samples(), "", " \n ") {
		for _, more := range kinds() {
			text := s + " " + lex.Join([]api.Token{more})
			if more == sign("(") {
				checkPlace(t, text, len(text), api.ErrForm)
				checkPlace(t, text+" \n", len(text)+2, api.ErrForm)
			} else {
				checkPlace(t, text, len(s)+1, api.ErrForm)
			}
		}
	}
}

// P11.1: what is wrong stays so, and where, with anything behind it that has tokens.
func TestAnythingBehind(t *testing.T) {
	m := newMaker(1)
	for range 2000 {
		l := m.nearly(tokens(t, one(m, samples()...)))
		s := m.spread(l)
		_, at, err := check(t, s)
		if err == api.OK || at == len(s) {
			continue
		}
		for range 3 {
			checkPlace(t, s+" "+m.spread(some(m, 6, m.token)), at, api.ErrForm)
			checkPlace(t, s+" "+one(m, samples()...), at, api.ErrForm)
		}
	}
}

// P11.1: random programs, and what is nearly one.
func TestRandomPrograms(t *testing.T) {
	m := newMaker(2)
	for range 2000 {
		p := m.program()
		s := written(p)
		if len(s) > api.MaxSource {
			continue
		}
		checkRight(t, s, p)
		l := tokens(t, s)
		for range 3 {
			check(t, lex.Join(m.nearly(l)))
		}
	}
}

// P11.1: random tokens, and, so that more of them go on well, tokens that go on well, with one more of any kind.
func TestRandomTokens(t *testing.T) {
	m := newMaker(3)
	for range 5000 {
		check(t, m.spread(some(m, 10, m.token)))
	}
	all := kinds()
	for range 500 {
		var l []api.Token
		hopes := begun()
		for range 40 {
			more := one(m, goOn(hopes)...)
			l, hopes = append(l, more), behind(hopes, more)
			check(t, lex.Join(append(slices.Clip(l), one(m, all...))))
		}
		check(t, lex.Join(l))
	}
}

// goOn is tokens any of which may come.
func goOn(hopes []*hope) []api.Token {
	var may []api.Token
	for _, t := range kinds() {
		if len(behind(hopes, t)) > 0 {
			may = append(may, t)
		}
	}
	return may
}

// P11.1, P1: any texts.
func TestRandomTexts(t *testing.T) {
	m := newMaker(4)
	for range 3000 {
		check(t, m.text())
	}
}
