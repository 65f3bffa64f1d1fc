package engine_test

import (
	"math"
	"slices"
	"testing"

	"tribunal/api"
	"tribunal/check"
	"tribunal/schema"
)

// queries fails, unless Query of conditions of a text tells those.
func (b *both) queries(text string, want ...string) *both {
	b.t.Helper()
	for range 2 {
		if got := lines(b.query(conds(b.t, text))); !slices.Equal(got, want) {
			b.t.Fatalf("%s: got %s, want %s", text, brief(got), brief(want))
		}
	}
	return b
}

// P21.1 (U3): Query of conditions of each kind, and of none, of facts that come, are modified and go; it changes nothing, and what a rule knows has nothing to do with it.
func TestQuery(t *testing.T) {
	b := ofText(t, "(rule r 0 ((as ?f (p (a ?x) (b ?y))) (let ?n sum ?z () ((p (a ?z))))) ((modify ?f (a (+ ?x 1))))) (rule s -1 ((q (s ?x))) ())")
	b.queries("", "").queries("(p)").queries("(not (p))", "").queries("(let ?n count ?x () ((p (a ?x))))", "n=0").queries("(let ?m min ?x () ((p (a ?x))))", "m=none").queries("(if < 1 2)", "").queries("(if < 2 1)")
	b.comes("p 1 2", "q 1 'a", "p 2 2", "e", "p 10 9", "p 9 9")
	for range 2 {
		b.queries("", "").queries("(p (a ?x))", "x=1 #1", "x=2 #3", "x=10 #5", "x=9 #6")
		b.queries("(as ?x (p (a ?f)))", "f=1 x=#1 #1", "f=2 x=#3 #3", "f=10 x=#5 #5", "f=9 x=#6 #6")
		b.queries("(let ?n count ?y (?x) ((p (a ?x) (b ?y))))", "n=1 x=1", "n=1 x=2", "n=1 x=9", "n=1 x=10")
		b.queries("(let ?x set ?n (?y) ((p (a ?n) (b ?y))))", "x={1, 2} y=2", "x={9, 10} y=9")
		b.queries("(q (a ?x) (s ?n)) (p (a ?x))", "n='a x=1 #2 #1").queries("(p (a ?x)) (not (q (a ?x))) (if > ?x 2)", "x=10 #5", "x=9 #6")
		b.queries("(not (p (a 3)))", "").queries("(not (e))").queries("(u)").queries("(w (t ?x))")
		b.queries("(as ?f (p (a ?x) (b ?x))) (let ?n max ?y () ((p (b ?y))))", "f=#3 n=9 x=2 #3", "f=#6 n=9 x=9 #6")
	}
	b.runs(2, api.StopFuel, "0 f=#6 n=22 x=9 y=9 #6: 1", "0 f=#7 n=23 x=10 y=9 #7: 1")
	b.queries("(p (a ?x))", "x=1 #1", "x=2 #3", "x=10 #5", "x=11 #8").queries("(not (p (a 11)))")
	b.turns(8, "a=0 b=0", 9).goes(1, 4).queries("(p (a ?x) (b ?y))", "x=2 y=2 #3", "x=10 y=9 #5", "x=0 y=0 #9").queries("(not (e))", "")
	b.empty()
	b.queries("", "").queries("(p)").queries("(let ?n sum ?x () ((p (a ?x))))", "n=0")
}

// P21.1 (U3): Query is of the program's templates, be they as few as they may.
func TestQueryTemplates(t *testing.T) {
	for _, p := range []api.Program{{}, parsed(t, "(rule r 0 () ())"), parsed(t, "(template z (k num)) (rule r 0 ((z)) ())")} {
		b := of(t, p)
		b.queries("", "").queries("(if = 'a 'a)", "")
		if rows, err := b.e.Query(conds(t, "(p)")); len(rows) > 0 || err != api.ErrNone {
			t.Errorf("got %s, %d", lines(rows), err)
		}
		rows, err := b.e.Query(conds(t, "(not (z (k ?x)))"))
		if want := map[bool]api.Errno{true: api.OK, false: api.ErrNone}[len(p.Tmpls) > 0]; err != want || len(rows) != int(1-min(err, 1)) {
			t.Errorf("got %s, %d, want %d", lines(rows), err, want)
		}
	}
}

// P21.1 (U3), P2, P21.5: with each of check.Conds' errors there is nothing, and nothing has changed.
func TestQueryErrors(t *testing.T) {
	b := ofText(t, "(rule r 0 ((p (a ?x))) ((print ?x))) (rule s 0 () ())").comes("p 1 2", "q 1 'a", "p 3 4")
	b.run(2)
	s, _, _ := schema.New(b.m.p.Tmpls)
	count := map[api.Errno]int{}
	fails := func(l []api.Cond, want api.Errno) {
		t.Helper()
		if _, err := check.Conds(s, l); err != want {
			t.Fatalf("%s: check tells %d, want %d", brief(len(l)), err, want)
		}
		// In lists that stand in themselves spare room cannot be told.
		if rows, err := b.e.Query(l); len(rows) > 0 || err != want {
			t.Fatalf("%s: got %s, %d, want %d", brief(len(l)), lines(rows), err, want)
		}
		b.check()
		count[want]++
	}
	for _, w := range wrongRules(t) {
		if _, err := check.Conds(s, w.r.Conds); err != api.OK {
			fails(w.r.Conds, w.err)
			fails(append(slices.Clone(w.r.Conds), w.r.Conds...), w.err)
		}
	}
	for _, kind := range []int{0, -1, 5, math.MinInt, math.MaxInt} {
		fails([]api.Cond{{Kind: kind}}, api.ErrForm)
	}
	fails(make([]api.Cond, 13), api.ErrTooMany)
	fails(make([]api.Cond, 12), api.ErrForm)
	// What a rule knows is not known.
	fails(conds(t, "(if < ?x 2)"), api.ErrNone)
	for _, err := range []api.Errno{api.ErrArg, api.ErrTooMany, api.ErrNone, api.ErrThere, api.ErrForm, api.ErrType} {
		if count[err] < 2 {
			t.Errorf("error %d: just %d times", err, count[err])
		}
	}
}

// P21.1 (U3), P2: any conditions, many of which may not be, are told as check tells, and of the facts that are there.
func TestQueryOfAny(t *testing.T) {
	m, count := newMaker(t, 31), map[api.Errno]int{}
	b := ofText(t, broad).comes("p 1 1", "p 1 2", "q 1 'a", "q 2 'b", "e", "w 1 \"\" 'a true", "u 2 1")
	b.run(4)
	s, _, _ := schema.New(b.m.p.Tmpls)
	for range 2500 {
		l, _ := m.conds(1+m.Intn(3), 2)
		l = copied(l)
		c := &l[m.Intn(len(l))]
		switch m.Intn(9) {
		case 0:
			c.Kind = m.Intn(6)
		case 1:
			c.Var, c.As = one(m, "x", "", "X"), one(m, "", "f", "x", "F")
		case 2:
			c.By = append(c.By, one(m, "x", "y", "f"))
		case 3:
			c.Arg, c.Fold = one(m, "x", "y", "f", c.Arg), one(m, "sum", "", "avg", "set")
		case 4:
			c.Pat.Tmpl = one(m, "p", "q", "u", "", "nothere")
		case 5:
			c.Pat.Slots = append(c.Pat.Slots, api.Slot{Name: one(m, "a", "b", "s"), T: api.Term{Var: one(m, "x", "y", "s", "")}})
		case 6:
			c.Op = one(m, "<", "=", "", "!=")
		}
		_, want := check.Conds(s, l)
		count[want]++
		if want == api.OK {
			b.query(l)
		} else if rows, err := b.e.Query(l); err != want || len(rows) > 0 {
			t.Fatalf("%s: got %s, %d, want %d", brief(l), lines(rows), err, want)
		}
	}
	for _, err := range []api.Errno{api.OK, api.ErrArg, api.ErrNone, api.ErrThere, api.ErrForm, api.ErrType} {
		if count[err] < 5 {
			t.Errorf("error %d: just %d times", err, count[err])
		}
	}
	b.to(todo(b.m.todo())...)
	b.next()
}
