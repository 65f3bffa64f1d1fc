package check_test

import (
	"fmt"
	"slices"
	"strings"
	"testing"

	"tribunal/api"
	"tribunal/check"
	"tribunal/parse"
	"tribunal/show"
)

// back fails, unless a right program with a text that is not too long is parsed from it, and is right; and so is its text with more blanks.
func back(t testing.TB, p api.Program) {
	t.Helper()
	if err, place := check.Check(p); err != api.OK || place != 0 {
		t.Fatalf("%s: %d, %d", brief(p), err, place)
	}
	text := show.Show(p)
	for _, s := range []string{text, strings.ReplaceAll(text, ") )", "))"), strings.ReplaceAll(text, "( ", "\n(")} {
		if len(s) > api.MaxSource {
			continue
		}
		q, at, err := parse.Parse(s)
		if err != api.OK || !show.Same(p, q) || show.Show(q) != text {
			t.Fatalf("%s: %d at %d, or another program", brief(s), err, at)
		}
		if err, place := check.Check(q); err != api.OK || place != 0 {
			t.Fatalf("%s: %d, %d, once it was parsed", brief(s), err, place)
		}
	}
}

// P13.1: what is made to be right is, and what is known is what was made known; P13.2 (shown and parsed).
func TestRightPrograms(t *testing.T) {
	m := newMaker(1, few(t))
	let := 0
	for range 2500 {
		p := m.program()
		checked(t, p, api.OK, 0)
		back(t, p)
		r, want := m.rule("r")
		if got, err := asked(t, m.tmpls, r.Conds); err != api.OK || !slices.Equal(got, want) {
			t.Fatalf("%s: got %s, %d, want %s", brief(r), told(got), err, told(want))
		}
		let += strings.Count(show.Rule(r), "( let")
	}
	if let < 1500 {
		t.Errorf("just %d folds", let)
	}
}

// P13.2: right programs of names and values at their edges, of words that mean something elsewhere, and of empty lists.
func TestEdgesBack(t *testing.T) {
	for _, s := range []string{
		"", "(template e)", "(rule r 0 () ())",
		"(template template (rule num) (as sym) (not text) (if bool) (let num)) (template rule) (template assert (halt num)) (template halt) (rule rule 0 ((template (rule ?rule) (as 'as) (not \"not\") (if true) (let ?let)) (rule) (not (rule)) (as ?as (assert (halt ?if)))) ((assert assert (halt ?let)) (assert rule) (retract ?as) (modify ?as (halt ?rule)) (halt)))",
		fewText + "(rule " + times("z", 24) + " -1000 ((a (n ?" + times("y", 24) + "))) ((print ?" + times("y", 24) + ")))",
		fewText + "(rule r 1000 ((a (n " + times("9", 300) + ") (t \"" + times("~", 100) + "\") (s '" + times("a", 24) + ") (b false))) ((print none) (print \"\") (print -1/2) (print 'none) (print true)))",
		fewText + "(rule true1 0 ((a (n ?true) (t ?false) (s ?none))) ((print ?true) (print ?false) (assert one (n ?none))))",
		fewText + "(rule r 0 ((if = none none) (if != \"a  b\" \"(\") (if = true false) (if < 1 2) (if <= 1 2) (if > 1 2) (if >= 1 2)) ())",
		fewText + "(rule r 0 (" + nested(5, "(a (n ?x))") + ") ((print " + show.Expr(deepTerm(6, at("x"))) + ")))",
		fewText + "(rule r 0 (" + times("(e)", 12) + ") (" + times("(halt)", 12) + "))",
		"(template a)" + strings.Join(numbered(32, "(rule r%d 0 () ())"), "") + strings.Join(numbered(15, "(template t%d (n num))"), ""),
		fewText + "(rule r 0 ((let ?v max ?f (?f ?n) ((as ?f (a (n ?n)))))) ((modify ?v) (modify ?f (n ?n)) (retract ?v)))",
	} {
		p := parsed(t, s)
		checked(t, p, api.OK, 0)
		back(t, p)
		q := copied(p)
		for i := range q.Rules {
			for j := range q.Rules[i].Conds {
				q.Rules[i].Conds[j].By = append([]string{}, q.Rules[i].Conds[j].By...)
				q.Rules[i].Conds[j].A.L = append([]api.Expr{}, q.Rules[i].Conds[j].A.L...)
			}
		}
		checked(t, q, api.OK, 0)
		back(t, q)
	}
}

// numbered is a text, n times, each with its number.
func numbered(n int, text string) []string {
	l := make([]string, n)
	for i := range l {
		l[i] = fmt.Sprintf(text, i)
	}
	return l
}

// P13.2: right programs whose text has 8000 bytes, a few less, and a few more: these may be, and have no text.
func TestLongTexts(t *testing.T) {
	for size := api.MaxSource - 110; size <= api.MaxSource+60; size++ {
		p := sized(t, size)
		if got := len(show.Show(p)); got != size {
			t.Fatalf("%d bytes, want %d", got, size)
		}
		checked(t, p, api.OK, 0)
		back(t, p)
		_, _, err := parse.Parse(show.Show(p))
		if (err == api.OK) != (size <= api.MaxSource) {
			t.Fatalf("%d bytes: %d", size, err)
		}
	}
}

// sized is a right program whose text has so many bytes.
func sized(t *testing.T, size int) api.Program {
	p := api.Program{Rules: many(7)}
	for i := range p.Rules {
		p.Rules[i].Acts = deeds(t, times("(print \""+times("x", 80)+"\")", 12))
	}
	missing := size - len(show.Show(p))
	for i := range p.Rules {
		for j := range p.Rules[i].Acts {
			more := max(-80, min(20, missing))
			missing -= more
			p.Rules[i].Acts[j].E.T.V.S = times("x", 80+more)
		}
	}
	return p
}

// renamed is conditions in which a variable has another name, wherever it stands.
func renamed(l []api.Cond, from, to string) []api.Cond {
	name := func(s *string) {
		if *s == from {
			*s = to
		}
	}
	l = copied(l)
	for i := range l {
		c := &l[i]
		for _, s := range []*string{&c.As, &c.Var, &c.Arg} {
			name(s)
		}
		for j := range c.By {
			name(&c.By[j])
		}
		for j := range c.Pat.Slots {
			name(&c.Pat.Slots[j].T.Var)
		}
		c.A, c.B = renamedExpr(c.A, from, to), renamedExpr(c.B, from, to)
		c.Over = renamed(c.Over, from, to)
	}
	return l
}

func renamedExpr(e api.Expr, from, to string) api.Expr {
	e = copied(e)
	if e.T.Var == from {
		e.T.Var = to
	}
	for i := range e.L {
		e.L[i] = renamedExpr(e.L[i], from, to)
	}
	return e
}

// actVars is the variables that an action names.
func actVars(a api.Act) []string {
	l := exprVars(a.E)
	if a.Var != "" {
		l = append(l, a.Var)
	}
	for _, f := range a.Fills {
		l = append(l, exprVars(f.E)...)
	}
	return l
}

func exprVars(e api.Expr) []string {
	var l []string
	for _, t := range leaves(e) {
		if t.Var != "" {
			l = append(l, t.Var)
		}
	}
	return l
}

// bound fails, unless of right conditions no variable is known twice, and each one of a test, also within, is known ahead of it: with another name there ErrNone is told.
func bound(t *testing.T, l []api.Cond) int {
	t.Helper()
	s, many := made(t, few(t)), 0
	known, err := check.Conds(s, l)
	if err != api.OK {
		t.Fatalf("%s: %d", brief(l), err)
	}
	seen := map[string]int{}
	for _, k := range known {
		seen[k.Name]++
		if seen[k.Name] > 1 || !mayName(k.Name) || k.Type < 1 || k.Type > 6 || (k.Type == api.Id) != (k.Tmpl != "") {
			t.Fatalf("%s: %s", brief(l), told(known))
		}
	}
	for i, c := range l {
		many += bound(t, c.Over)
		for _, name := range append(exprVars(c.A), exprVars(c.B)...) {
			many++
			if known, _ := check.Conds(s, l[:i]); lookup(known, name).Type < 0 {
				t.Fatalf("%s: ?%s is not known at %d", brief(l), name, i)
			}
			if _, err := check.Conds(s, append(renamed(l[:i], name, "other"), c)); err != api.ErrNone {
				t.Fatalf("%s: without ?%s at %d: %d", brief(l), name, i, err)
			}
		}
	}
	return many
}

// P13.3 (bound): what is known behind right conditions, and what right tests and actions name.
func TestBound(t *testing.T) {
	m, many := newMaker(2, few(t)), 0
	s := made(t, few(t))
	for range 3500 {
		r, _ := m.rule("r")
		many += bound(t, r.Conds)
		known, _ := check.Conds(s, r.Conds)
		for i, a := range r.Acts {
			for _, name := range actVars(a) {
				many++
				if lookup(known, name).Type < 0 {
					t.Fatalf("%s: ?%s is not known", brief(r), name)
				}
				without := slices.DeleteFunc(slices.Clone(known), func(k api.Known) bool { return k.Name == name })
				if err := check.Act(s, without, a); err != api.ErrNone {
					t.Fatalf("%s: without ?%s: %d", brief(r), name, err)
				}
				q := api.Rule{Name: "r", Conds: renamed(r.Conds, name, "other"), Acts: r.Acts[i:]}
				if err, _ := check.Check(api.Program{Tmpls: m.tmpls, Rules: []api.Rule{q}}); err != api.ErrNone {
					t.Fatalf("%s: without ?%s: %d", brief(q), name, err)
				}
			}
		}
	}
	if many < 4000 {
		t.Errorf("just %d names", many)
	}
}

// P13.4 (one by one): of right conditions' first ones what is known is the beginning of what is known of all; of what is wrong with first ones is told of all.
func TestOneByOne(t *testing.T) {
	m, wrongOnes := newMaker(3, few(t)), 0
	s := made(t, few(t))
	for i := range 6000 {
		l, _ := m.conds(m.Intn(13), 3)
		if i%2 == 0 {
			nearly(m, &l)
		}
		all, err := check.Conds(s, l)
		if err == api.ErrTooMany {
			continue
		}
		before := 0
		for n := range len(l) + 1 {
			first, firstErr := check.Conds(s, l[:n])
			if err == api.OK && (firstErr != api.OK || len(first) < before || !slices.Equal(first, all[:len(first)])) {
				t.Fatalf("%s: first %d: %s, %d, all: %s", brief(l), n, told(first), firstErr, told(all))
			}
			if firstErr != api.OK && firstErr != err {
				t.Fatalf("%s: first %d: %d, all: %d", brief(l), n, firstErr, err)
			}
			before = len(first)
		}
		if err != api.OK {
			wrongOnes++
		}
	}
	if wrongOnes < 1000 {
		t.Errorf("just %d were wrong", wrongOnes)
	}
}
