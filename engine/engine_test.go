package engine_test

import (
	"math"
	"slices"
	"strings"
	"testing"

	"tribunal/api"
	"tribunal/check"
	"tribunal/engine"
)

// wrong is a program that may not be, by one of check's errors, and the place of what is wrong.
type wrong struct {
	p   api.Program
	err api.Errno
	at  int
}

// wrongTemplates is those one of whose templates is wrong, the one behind all others, unless there are too many.
func wrongTemplates(t testing.TB) []wrong {
	right := program(t, "(rule r 0 ((p (a ?x))) ((print ?x)))")
	with := func(l ...api.Template) api.Program {
		return api.Program{Tmpls: append(copied(right.Tmpls), l...), Rules: right.Rules}
	}
	l := []wrong{{with(make([]api.Template, 12)...), api.ErrTooMany, 16}, {with(api.Template{Name: "p"}), api.ErrThere, 5}, {with(right.Tmpls[1:]...), api.ErrThere, 5}}
	for _, name := range []string{"", "not", "as", "if", "let", "true", "false", "none", "P", "a b", "9", strings.Repeat("a", 25), "\xff"} {
		l = append(l, wrong{with(api.Template{Name: name}), api.ErrForm, 5})
	}
	for _, f := range []api.Field{{}, {Name: "n"}, {Name: "n", Type: 5}, {Name: "n", Type: 6}, {Name: "n", Type: -1}, {Name: "true", Type: 1}, {Name: "N", Type: 1}} {
		l = append(l, wrong{with(api.Template{Name: "z", Slots: []api.Field{f}}), api.ErrForm, 5})
	}
	l = append(l, wrong{with(api.Template{Name: "z"}, api.Template{Name: "z", Slots: make([]api.Field, 9)}), api.ErrForm, 6})
	return append(l, wrong{with(api.Template{Name: "z", Slots: []api.Field{{Name: "n", Type: 1}, {Name: "n", Type: 2}}}), api.ErrForm, 5})
}

// wrongRule is a rule that may not be, and check's error.
type wrongRule struct {
	r   api.Rule
	err api.Errno
}

// wrongRules is rules that are wrong: by their names and saliences, their conditions, and their actions.
func wrongRules(t testing.TB) []wrongRule {
	rule := func(text string) api.Rule { return parsed(t, "(rule z 0 "+text+")").Rules[0] }
	l := []wrongRule{
		{api.Rule{}, api.ErrForm}, {api.Rule{Name: "true"}, api.ErrForm}, {api.Rule{Name: "none"}, api.ErrForm}, {api.Rule{Name: "Z"}, api.ErrForm}, {api.Rule{Name: strings.Repeat("z", 25)}, api.ErrForm}, {api.Rule{Name: "r0"}, api.ErrThere},
		{rule("((nothere)) ()"), api.ErrNone}, {rule("((p (z 1))) ()"), api.ErrArg}, {rule("((p (a 1) (a 1))) ()"), api.ErrArg}, {rule("((p (a 'x))) ()"), api.ErrType}, {rule("((p (a ?x)) (q (s ?x))) ()"), api.ErrType}, {rule("((as ?f (p)) (as ?f (p))) ()"), api.ErrThere}, {rule("(" + strings.Repeat("(e)", 13) + ") ()"), api.ErrTooMany},
		{rule("((not (nothere))) ()"), api.ErrNone}, {rule("((not (p (a ?x))) (if = ?x 1)) ()"), api.ErrNone}, {rule("((if < 1 ?x)) ()"), api.ErrNone}, {rule("((if = 1 'a)) ()"), api.ErrType}, {rule("((if < 'a 'b)) ()"), api.ErrType},
		{rule("((let ?n few ?x () ((p (a ?x))))) ()"), api.ErrNone}, {rule("((let ?n count ?x () ())) ()"), api.ErrNone}, {rule("((let ?n sum ?s () ((q (s ?s))))) ()"), api.ErrType}, {rule("((let ?n count ?x (?x ?x) ((p (a ?x))))) ()"), api.ErrThere}, {rule("((let ?x count ?x (?x) ((p (a ?x))))) ()"), api.ErrThere}, {rule("((let ?n count ?x (?y) ((p (a ?x))))) ()"), api.ErrNone}, {rule("((q (s ?y)) (let ?n count ?x (?y) ((p (a ?x) (b ?y))))) ()"), api.ErrType}, {rule("(" + within(6, "(p (a ?x))") + ") ()"), api.ErrTooMany},
		{rule("() ((print ?x))"), api.ErrNone}, {rule("() ((print (+ 1 'a)))"), api.ErrType}, {rule("() ((assert nothere))"), api.ErrNone}, {rule("() ((assert p (a 1)))"), api.ErrArg}, {rule("() ((assert p (a 1) (b 'x)))"), api.ErrType}, {rule("() ((assert p (a 1) (a 1)))"), api.ErrArg}, {rule("((p (a ?x))) ((retract ?x))"), api.ErrType}, {rule("() ((halt) (retract ?f))"), api.ErrNone}, {rule("((as ?f (p))) ((modify ?f (s 'a)))"), api.ErrArg}, {rule("((as ?f (p))) ((modify ?f (a 'a)))"), api.ErrType}, {rule("() (" + strings.Repeat("(halt)", 13) + ")"), api.ErrTooMany},
		{api.Rule{Name: "z", Acts: []api.Act{{}}}, api.ErrForm}, {api.Rule{Name: "z", Acts: []api.Act{{Kind: 6}}}, api.ErrForm}, {api.Rule{Name: "z", Acts: []api.Act{{Kind: api.ActHalt, Var: "f"}}}, api.ErrForm}, {api.Rule{Name: "z", Acts: []api.Act{{Kind: math.MinInt}}}, api.ErrForm},
	}
	for _, salience := range []int{1001, -1001, 1 << 32, math.MaxInt, math.MinInt} {
		l = append(l, wrongRule{api.Rule{Name: "z", Salience: salience}, api.ErrForm})
	}
	for _, c := range []api.Cond{{}, {Kind: 5}, {Kind: -1}, {Kind: api.CondNot, As: "f", Pat: api.Pat{Tmpl: "p"}}, {Kind: api.CondPat, Pat: api.Pat{Tmpl: "p"}, Op: "<"}, {Kind: api.CondIf, Op: "=="}, {Kind: api.CondPat, Pat: api.Pat{Tmpl: "p"}, As: "F"}} {
		l = append(l, wrongRule{api.Rule{Name: "z", Conds: []api.Cond{c}}, api.ErrForm})
	}
	return append(l, holding(t)...)
}

// within is a let in as many others as deep less 1; the innermost one is of those conditions, which make ?x known.
func within(deep int, inner string) string {
	s := "(let ?x count ?x () (" + inner + "))"
	for range deep - 1 {
		s = "(let ?x max ?x () (" + s + "))"
	}
	return s
}

// holding is rules in which a list stands in itself.
func holding(t testing.TB) []wrongRule {
	e := api.Expr{Op: "+", L: make([]api.Expr, 2)}
	e.L[0], e.L[1] = e, e
	over := conds(t, "(p (a ?x)) (let ?v count ?x () ((e)))")
	over[1].Over = over
	return []wrongRule{
		{api.Rule{Name: "z", Conds: []api.Cond{{Kind: api.CondIf, Op: "<", A: e, B: e}}}, api.ErrForm},
		{api.Rule{Name: "z", Conds: over}, api.ErrTooMany},
		{api.Rule{Name: "z", Acts: []api.Act{{Kind: api.ActPrint, E: e}}}, api.ErrForm},
		{api.Rule{Name: "z", Acts: []api.Act{{Kind: api.ActAssert, Tmpl: "p", Fills: []api.Fill{{Name: "a", E: e}, {Name: "b", E: e}}}}}, api.ErrForm},
	}
}

// mayNot fails, unless New of a program tells that error, and that place, and nil beside them.
func mayNot(t *testing.T, p api.Program, want api.Errno, place int) {
	t.Helper()
	for range 2 {
		if e, err, at := engine.New(p); e != nil || err != want || at != place {
			t.Fatalf("%s: got %t, %d, %d, want %d, %d", brief(len(p.Rules)), e != nil, err, at, want, place)
		}
	}
	if err, at := check.Check(p); err != want || at != place {
		t.Fatalf("%s: check tells %d, %d, want %d, %d", brief(len(p.Rules)), err, at, want, place)
	}
}

// P21.1 (U1), P2: New of a program that may not be, by whatever of check's errors, at whatever place, is nil, that error, and its place.
func TestMayNotBe(t *testing.T) {
	count := map[api.Errno]int{}
	right := program(t, "(rule r0 0 () ()) (rule r1 -1000 ((as ?f (p (a ?x)))) ((retract ?f))) (rule r2 1000 ((let ?n count ?x () ((p (a ?x)))) (if < ?n 2)) ((print ?n)))")
	for _, w := range wrongRules(t) {
		for at := range len(right.Rules) + 1 {
			if w.r.Name == "r0" && at == 0 {
				continue // it is the one behind it that is wrong
			}
			mayNot(t, api.Program{Tmpls: right.Tmpls, Rules: slices.Insert(slices.Clone(right.Rules), at, w.r)}, w.err, at)
			count[w.err]++
		}
	}
	mayNot(t, api.Program{Tmpls: right.Tmpls, Rules: append(slices.Clone(right.Rules), right.Rules...)}, api.ErrThere, 3)
	mayNot(t, api.Program{Tmpls: right.Tmpls, Rules: make([]api.Rule, 33)}, api.ErrTooMany, 32)
	for _, w := range wrongTemplates(t) {
		mayNot(t, w.p, w.err, w.at)
		w.p.Rules = make([]api.Rule, 33)
		mayNot(t, w.p, w.err, w.at)
		for _, r := range wrongRules(t) {
			w.p.Rules = []api.Rule{r.r}
			mayNot(t, w.p, w.err, w.at)
		}
	}
	for _, err := range []api.Errno{api.ErrArg, api.ErrTooMany, api.ErrNone, api.ErrThere, api.ErrForm, api.ErrType} {
		if count[err] < 4 {
			t.Errorf("error %d: just %d times", err, count[err])
		}
	}
}

// P21.1 (U1): New of no program at all, of templates alone, and of rules alone.
func TestFewPrograms(t *testing.T) {
	for _, p := range []api.Program{{}, {Tmpls: []api.Template{}, Rules: []api.Rule{}}, program(t, ""), {Tmpls: program(t, "").Tmpls, Rules: []api.Rule{}}} {
		b := of(t, p)
		b.has().to().sets(0)
		for _, fuel := range []int{0, 1, math.MaxInt, math.MinInt} {
			b.runs(fuel, api.StopEmpty)
		}
		if id, err := b.assert(fact("p 1 2")); len(p.Tmpls) > 0 && (id != 1 || err != api.OK) || len(p.Tmpls) == 0 && err != api.ErrNone {
			t.Errorf("got %d, %d", id, err)
		}
		b.runs(1, api.StopEmpty)
		if rows := b.query(nil); len(rows) != 1 || line(rows[0]) != "" {
			t.Errorf("got %s", lines(rows))
		}
		b.empty()
		if b.e.Held() != 0 {
			t.Errorf("%d are held", b.e.Held())
		}
	}
	b := of(t, parsed(t, "(rule a 0 () ((print 1))) (rule b 1 ((if < 1 2)) ((print 2) (halt))) (rule c 2 ((if > 1 2)) ())"))
	b.has().to("1", "0").sets(0, "").sets(1, "").sets(2)
	if id, err := b.assert("p", nil); id != 0 || err != api.ErrNone {
		t.Errorf("got %d, %d", id, err)
	}
	b.runs(2, api.StopHalt, "1 > 2: 2").runs(2, api.StopEmpty, "0 > 1: 1")
}

// P21.1 (U1, U3): what a new engine tells: no facts, what the net holds for of none, and all that to be done, in the agenda's order: rules of no conditions, of absences alone, of tests, of folds without keys, and of others, that hold for nothing.
func TestNewEngine(t *testing.T) {
	b := ofText(t, `
(rule bare 0 () ()) (rule pat 1000 ((p)) ()) (rule no 5 ((not (p))) ()) (rule nos 5 ((not (p)) (not (e))) ())
(rule yes 5 ((if < 1 2)) ()) (rule never 7 ((if < 2 1)) ()) (rule count -1000 ((let ?n count ?x () ((p (a ?x))))) ())
(rule min 0 ((let ?m min ?x () ((p (a ?x))))) ()) (rule keyed 9 ((let ?n sum ?x (?y) ((p (a ?x) (b ?y))))) ()) (rule empty 0 () ())
(rule folds 6 ((let ?s sum ?x () ((p (a ?x)))) (let ?l set ?f () ((as ?f (e)))) (let ?v avg ?x () ((p (a ?x)))) (let ?w max ?x () ((p (a ?x)))) (if = ?s 0)) ())
(rule behind 0 ((not (p)) (p)) ())`)
	b.has().to("10 l={} s=0 v=none w=none", "2", "3", "4", "0", "7 m=none", "9", "6 n=0")
	b.sets(0, "").sets(1).sets(2, "").sets(3, "").sets(4, "").sets(5).sets(6, "n=0").sets(7, "m=none").sets(8).sets(9, "").sets(10, "l={} s=0 v=none w=none").sets(11)
	for _, place := range []int{-1, -2, 12, 13, 33, 1 << 31, 1 << 32, -1 << 32, math.MaxInt, math.MinInt, math.MinInt + 1} {
		b.sets(place)
	}
	b.runs(0, api.StopFuel).to("10 l={} s=0 v=none w=none", "2", "3", "4", "0", "7 m=none", "9", "6 n=0")
	b.runs(99, api.StopEmpty, "10 l={} s=0 v=none w=none: 0", "2: 0", "3: 0", "4: 0", "0: 0", "7 m=none: 0", "9: 0", "6 n=0: 0")
	b.to().sets(0, "").sets(6, "n=0").runs(99, api.StopEmpty)
}

// P21.1 (U3): Held of a new engine, and of facts, is what the net holds.
func TestHeld(t *testing.T) {
	b := ofText(t, "(rule a 0 ((p (a ?x)) (let ?n count ?f () ((as ?f (p))))) ()) (rule b 0 () ())")
	if b.e.Held() != 5 {
		t.Errorf("%d are held", b.e.Held())
	}
	b.comes("p 1 1", "e")
	if b.e.Held() != 14 {
		t.Errorf("%d are held", b.e.Held())
	}
	b.runs(9, api.StopEmpty, "0 n=1 x=1 #1: 0", "1: 0")
	if b.e.Held() != 14 {
		t.Errorf("%d are held", b.e.Held())
	}
	b.goes(1, 2)
	if b.e.Held() != 5 {
		t.Errorf("%d are held", b.e.Held())
	}
}
