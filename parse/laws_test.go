package parse_test

import (
	"slices"
	"strings"
	"testing"

	"tribunal/api"
	"tribunal/lex"
	"tribunal/parse"
)

// P11.2 (in order): of the same templates and rules, each in order, in any order among one another, the same program comes.
func TestInOrder(t *testing.T) {
	a, b, r, s := "(template a (x num))", "(template b)", "(rule r 0 ((a)) ())", "(rule s 1 () ((halt)))"
	want, _, err := parse.Parse(a + b + r + s)
	if err != api.OK || len(want.Tmpls) != 2 || want.Tmpls[0].Name != "a" || want.Tmpls[1].Name != "b" || len(want.Rules) != 2 || want.Rules[0].Name != "r" || want.Rules[1].Name != "s" {
		t.Fatalf("got %v, %d", want, err)
	}
	for _, l := range [][]string{{r, s, a, b}, {a, r, b, s}, {a, r, s, b}, {r, a, s, b}, {r, a, b, s}} {
		checkRight(t, strings.Join(l, ""), want)
		checkRight(t, strings.Join(l, "\n"), want)
	}
	checkRight(t, b+a+r+s, api.Program{Tmpls: []api.Template{want.Tmpls[1], want.Tmpls[0]}, Rules: want.Rules})
	checkRight(t, a+b+s+r, api.Program{Tmpls: want.Tmpls, Rules: []api.Rule{want.Rules[1], want.Rules[0]}})
}

// P11.2: random programs' items, in random order, templates among themselves, and rules, in theirs.
func TestRandomOrder(t *testing.T) {
	m := newMaker(5)
	for range 1000 {
		p := api.Program{Tmpls: some(m, 5, m.template), Rules: some(m, 5, m.rule)}
		var items []string
		tmpls, rules := p.Tmpls, p.Rules
		for len(tmpls)+len(rules) > 0 {
			if m.Intn(len(tmpls)+len(rules)) < len(tmpls) {
				items = append(items, written(api.Program{Tmpls: tmpls[:1]}))
				tmpls = tmpls[1:]
			} else {
				items = append(items, written(api.Program{Rules: rules[:1]}))
				rules = rules[1:]
			}
		}
		if s := strings.Join(items, "\n"); len(s) <= api.MaxSource {
			checkRight(t, s, p)
		}
	}
}

// P11.2: of two texts, one behind the other, come the templates and rules of both, each in order; what is wrong in one of them is so in both.
func TestTwoTexts(t *testing.T) {
	m := newMaker(6)
	for range 2000 {
		s, other := m.spread(m.nearly(tokens(t, one(m, samples()...)))), m.spread(m.nearly(tokens(t, one(m, samples()...))))
		p, at, err := check(t, s)
		p2, at2, err2 := check(t, other)
		both := s + " " + other
		switch {
		case err == api.OK && err2 == api.OK:
			checkRight(t, both, api.Program{Tmpls: slices.Concat(p.Tmpls, p2.Tmpls), Rules: slices.Concat(p.Rules, p2.Rules)})
		case err == api.OK:
			checkPlace(t, both, len(s)+1+at2, err2)
		case at < len(s):
			checkPlace(t, both, at, err)
		}
	}
}

// P11.3 (text alone): with more blanks, or fewer, the program is the same, and the token that is wrong.
func TestBlanks(t *testing.T) {
	for _, s := range samples() {
		l := tokens(t, s)
		checkAs(t, s, lex.Join(l))
		checkAs(t, "\n \t\r"+s+" \n\n", s)
		checkAs(t, strings.ReplaceAll(s, ") (", ")("), s)
		for i := range l {
			for _, blanks := range []string{" ", "\n", "\t", "\r", "  \n "} {
				checkAs(t, s[:l[i].At]+blanks+s[l[i].At:], s)
			}
		}
	}
	for _, s := range []string{"", " ", "(rule r 0 () ((halt))", "(rule r 0 () (halt))", "(template a (x int))", ") (", "(rule r 0 ((if < 1)) ())", "(rule r 0 () ()) )"} {
		checkAs(t, "\n "+strings.ReplaceAll(s, " ", " \t\r\n")+" ", s)
	}
}

// P11.3: random texts, with blanks otherwise, and as lex's Join has them.
func TestRandomBlanks(t *testing.T) {
	m := newMaker(7)
	for range 1000 {
		l := m.nearly(tokens(t, one(m, samples()...)))
		s := m.spread(l)
		checkAs(t, s, m.spread(l))
		checkAs(t, s, lex.Join(l))
		checkAs(t, s+m.blanks(3), s)
	}
	for range 2000 {
		s := m.text()
		if l, _, err := lex.Lex(s); err == api.OK && len(lex.Join(l)) <= api.MaxSource {
			checkAs(t, s, lex.Join(l))
		}
	}
}

// P2: with an error the program is a zero one; P11.1: without one the place is 0.
func TestZeroBeside(t *testing.T) {
	m := newMaker(8)
	for range 2000 {
		s := m.text()
		p, at, err := parse.Parse(s)
		if err != api.OK && (p.Tmpls != nil || p.Rules != nil) || err == api.OK && at != 0 {
			t.Fatalf("%q: got %v, %d, %d", s, p, at, err)
		}
		if err != api.OK && err != api.ErrForm || at < 0 || at > len(s) {
			t.Fatalf("%q: got %d, %d", s, at, err)
		}
	}
}

// P11.1: what a kind has not is zero.
func TestZeroFields(t *testing.T) {
	m := newMaker(9)
	for range 1000 {
		p, _, err := parse.Parse(m.spread(tokens(t, written(api.Program{Rules: []api.Rule{m.rule()}}))))
		for _, r := range p.Rules {
			checkConds(t, r.Conds)
			checkActs(t, r.Acts)
		}
		if err == api.OK && (len(p.Tmpls) != 0 || len(p.Rules) != 1) {
			t.Fatalf("got %v", p)
		}
	}
}

// checkConds fails, unless each has what its kind has, alone.
func checkConds(t *testing.T, l []api.Cond) {
	t.Helper()
	for _, c := range l {
		only := api.Cond{Kind: c.Kind}
		switch c.Kind {
		case api.CondPat:
			only.As, only.Pat = c.As, c.Pat
		case api.CondNot:
			only.Pat = c.Pat
		case api.CondIf:
			only.Op, only.A, only.B = c.Op, c.A, c.B
			checkExpr(t, c.A)
			checkExpr(t, c.B)
		case api.CondLet:
			only.Var, only.Fold, only.Arg, only.By, only.Over = c.Var, c.Fold, c.Arg, c.By, c.Over
			checkConds(t, c.Over)
		default:
			t.Fatalf("a condition of kind %d", c.Kind)
		}
		if !same(c, only) {
			t.Fatalf("%+v: more than its kind has", c)
		}
		for _, s := range c.Pat.Slots {
			checkTerm(t, s.T)
		}
	}
}

// checkActs fails, unless each has what its kind has, alone.
func checkActs(t *testing.T, l []api.Act) {
	t.Helper()
	for _, a := range l {
		only := api.Act{Kind: a.Kind}
		switch a.Kind {
		case api.ActAssert:
			only.Tmpl, only.Fills = a.Tmpl, a.Fills
		case api.ActRetract:
			only.Var = a.Var
		case api.ActModify:
			only.Var, only.Fills = a.Var, a.Fills
		case api.ActPrint:
			only.E = a.E
			checkExpr(t, a.E)
		case api.ActHalt:
		default:
			t.Fatalf("an action of kind %d", a.Kind)
		}
		if !same(a, only) {
			t.Fatalf("%+v: more than its kind has", a)
		}
		for _, f := range a.Fills {
			checkExpr(t, f.E)
		}
	}
}

// checkExpr fails, unless an expression is a term, or two expressions and a sign.
func checkExpr(t *testing.T, e api.Expr) {
	t.Helper()
	switch {
	case e.Op == "" && len(e.L) == 0:
		checkTerm(t, e.T)
	case e.Op != "" && len(e.L) == 2 && e.T == api.Term{}:
		checkExpr(t, e.L[0])
		checkExpr(t, e.L[1])
	default:
		t.Fatalf("%+v: neither a term, nor a sign and two", e)
	}
}

// checkTerm fails, unless a term is a variable, or a value.
func checkTerm(t *testing.T, term api.Term) {
	t.Helper()
	if term.Var != "" && term.V != (api.Value{}) {
		t.Fatalf("%+v: a variable and a value", term)
	}
}
