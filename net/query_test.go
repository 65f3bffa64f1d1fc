package net_test

import (
	"fmt"
	"slices"
	"testing"

	"tribunal/api"
	"tribunal/check"
	"tribunal/net"
	"tribunal/schema"
)

// asked is what Query tells; it fails, unless that is what another one tells, and what was handed in is not changed, nor its spare room.
func asked(t testing.TB, tmpls []api.Template, facts []api.Fact, l []api.Cond) ([]api.Tuple, api.Errno) {
	t.Helper()
	givenTmpls, givenFacts, givenConds := roomy(tmpls), roomy(facts), roomy(l)
	was := whole(givenTmpls) + whole(givenFacts) + whole(givenConds)
	got, err := net.Query(givenTmpls, givenFacts, givenConds)
	if whole(givenTmpls)+whole(givenFacts)+whole(givenConds) != was {
		t.Fatalf("%s of %s: changed, or its spare room", brief(l), brief(facts))
	}
	spoil(&givenTmpls)
	spoil(&givenFacts)
	spoil(&givenConds)
	want, wantErr := answer(tmpls, facts, l)
	if err != wantErr || !alikeRows(got, want) {
		t.Fatalf("%s of %s: got %s, %d, want %s, %d", brief(l), brief(facts), brief(lines(got)), err, brief(lines(want)), wantErr)
	}
	return got, err
}

// answer is another telling of Query.
func answer(tmpls []api.Template, facts []api.Fact, l []api.Cond) ([]api.Tuple, api.Errno) {
	s, err, _ := schema.New(tmpls)
	if err != api.OK {
		return nil, err
	}
	if _, err := check.Conds(s, l); err != api.OK {
		return nil, err
	}
	m := newModel(api.Program{Tmpls: tmpls})
	for _, f := range facts {
		m.add(f)
	}
	return m.set(l), api.OK
}

// query fails, unless Query of those templates, of such facts and conditions tells those, and OK.
func query(t testing.TB, facts []api.Fact, text string, want ...string) {
	t.Helper()
	got, err := asked(t, program(t).Tmpls, facts, conds(t, text))
	if err != api.OK || !slices.Equal(lines(got), want) {
		t.Fatalf("%s: got %s, %d, want %s", text, brief(lines(got)), err, want)
	}
}

// P19.1 (S4): what conditions hold for, of some facts, sorted; of no templates, no facts, no conditions.
func TestQuery(t *testing.T) {
	few := facts("3 p 1 2", "9 q 1 'a", "1 p 2 2", "2 e", "10 p 10 9", "4 p 9 9")
	query(t, few, "", "")
	query(t, nil, "", "")
	query(t, nil, "(p)")
	query(t, nil, "(not (p))", "")
	query(t, nil, "(let ?n count ?x () ((p (a ?x))))", "n=0")
	query(t, few, "(p (a ?x))", "x=2 #1", "x=1 #3", "x=9 #4", "x=10 #10")
	query(t, few, "(let ?n count ?y (?x) ((p (a ?x) (b ?y))))", "n=1 x=1", "n=1 x=2", "n=1 x=9", "n=1 x=10")
	query(t, few, "(q (a ?x)) (p (a ?x))", "x=1 #9 #3")
	query(t, few, "(as ?f (p (a ?x) (b ?x))) (not (q (a ?x))) (if > ?x 2) (let ?n max ?y () ((p (b ?y))))", "f=#4 n=9 x=9 #4")
	for _, l := range [][]api.Template{nil, {}, program(t).Tmpls} {
		for _, f := range [][]api.Fact{nil, {}, few} {
			for _, c := range [][]api.Cond{nil, {}, conds(t, "(if < 1 2)")} {
				if got, err := asked(t, l, f, c); err != api.OK || len(got) != 1 || line(got[0]) != "" {
					t.Errorf("got %s, %d", lines(got), err)
				}
			}
			if got, err := asked(t, l, f, conds(t, "(if < 2 1)")); err != api.OK || len(got) > 0 {
				t.Errorf("got %s, %d", lines(got), err)
			}
		}
	}
}

// P19.1 (S4), P2: schema's error is ahead of that of the conditions; with an error there are no tuples.
func TestQueryErrors(t *testing.T) {
	few, right := facts("3 p 1 2", "9 q 1 'a"), conds(t, "(p (a ?x))")
	fails := func(l []api.Template, c []api.Cond, want api.Errno) {
		t.Helper()
		for _, f := range [][]api.Fact{nil, few} {
			// In lists that stand in themselves spare room cannot be told.
			if got, err := net.Query(l, f, c); err != want || len(got) > 0 {
				t.Fatalf("%s: got %s, %d, want %d", brief(len(l)), lines(got), err, want)
			}
		}
	}
	count := map[api.Errno]int{}
	var wrongConds [][]api.Cond
	for _, w := range append(wrongRules(t), holding(t)...) {
		l := w.p.Rules[0].Conds
		s, _, _ := schema.New(w.p.Tmpls)
		if _, err := check.Conds(s, l); err != api.OK {
			fails(w.p.Tmpls, l, err)
			fails(nil, l, errOf(nil, l))
			wrongConds = append(wrongConds, l)
			count[err]++
		}
	}
	for _, w := range wrongTemplates(t) {
		fails(w.p.Tmpls, right, w.err)
		fails(w.p.Tmpls, nil, w.err)
		for _, l := range wrongConds {
			fails(w.p.Tmpls, l, w.err)
		}
	}
	for _, err := range []api.Errno{api.ErrArg, api.ErrTooMany, api.ErrNone, api.ErrThere, api.ErrForm, api.ErrType} {
		if count[err] == 0 {
			t.Errorf("error %d: none", err)
		}
	}
}

// errOf is check.Conds' error.
func errOf(l []api.Template, c []api.Cond) api.Errno {
	s, _, _ := schema.New(l)
	_, err := check.Conds(s, c)
	return err
}

// P19.1 (S4): facts that Add would not take are none: of a number twice the first one that is taken is there; a wrong one ahead of a right one of its number is none.
func TestQueryFacts(t *testing.T) {
	const all = "(as ?f (p (a ?x)))"
	query(t, facts("1 p 1 1", "1 p 2 2", "2 p 3 3", "1 e"), all, "f=#1 x=1 #1", "f=#2 x=3 #2")
	query(t, facts("1 p 1", "1 p 2 2", "1 p 3 3"), all, "f=#1 x=2 #1")
	query(t, facts("1 nothere", "1 p 'a 2", "1 e 1", "1 p 3 3"), all, "f=#1 x=3 #1")
	query(t, facts("1 e", "1 p 2 2"), all)
	query(t, facts("0 p 1 1", "-1 p 1 1", "1000000000 p 1 1", "999999999 p 7 1", "1 p 8 1"), all, "f=#1 x=8 #1", "f=#999999999 x=7 #999999999")
	for _, number := range edges() {
		query(t, []api.Fact{{Id: number, Tmpl: "p", Vals: fact("1 p 1 1").Vals}, {Id: number, Tmpl: "e"}}, all)
	}
	query(t, facts("2 p 01 1", "2 p 2/2 1", "2 p none 1", "2 p 5 1"), all, "f=#2 x=5 #2")
}

// P19.1 (S4): Query tells what Set does of a rule of the same conditions, once Add has had the same facts, in the same order.
func TestQueryAsSet(t *testing.T) {
	m, rows := newMaker(t, 30), 0
	for range 400 {
		p := m.right(t, 3)
		n := net.New(p)
		var few []api.Fact
		for range m.Intn(14) {
			f := m.fact()
			n.Add(f)
			few = append(few, f)
		}
		for i, r := range p.Rules {
			got, err := asked(t, p.Tmpls, few, r.Conds)
			if want := n.Set(i); err != api.OK || !alikeRows(got, want) {
				t.Fatalf("%s of %s: got %s, %d, want %s", brief(r), brief(few), brief(lines(got)), err, brief(lines(want)))
			}
			rows += min(len(got), 1)
		}
	}
	if rows < 200 {
		t.Errorf("just %d", rows)
	}
}

// P19.1 (S4), P2: any conditions, most of which may not be.
func TestQueryOfAny(t *testing.T) {
	m, count := newMaker(t, 31), map[api.Errno]int{}
	few := facts("1 p 1 1", "2 p 1 2", "3 q 1 'a", "4 q 2 'b", "5 e", "6 w 1 \"\" 'a true", "7 u 2 1")
	for range 3000 {
		l, _ := m.conds(1+m.Intn(3), 2)
		l = copied(l)
		c := &l[m.Intn(len(l))]
		switch m.Intn(9) {
		case 0:
			c.Kind = m.Intn(6)
		case 1:
			c.Var, c.As = one(m, "x", "", "X"), one(m, "", "f", "x", "F")
		case 2:
			c.By = append(c.By, one(m, "x", "y", "f"))
		case 3:
			c.Arg, c.Fold = one(m, "x", "y", "f", c.Arg), one(m, "sum", "", "avg", "set")
		case 4:
			c.Pat.Tmpl = one(m, "p", "q", "u", "", "nothere")
		case 5:
			c.Pat.Slots = append(c.Pat.Slots, api.Slot{Name: one(m, "a", "b", "s"), T: api.Term{Var: one(m, "x", "y", "s", "")}})
		case 6:
			c.Op = one(m, "<", "=", "", "!=")
		case 7:
			l = append(l, l...)
		}
		_, err := asked(t, m.tmpls, few, l)
		count[err]++
	}
	for _, err := range []api.Errno{api.OK, api.ErrArg, api.ErrNone, api.ErrThere, api.ErrForm, api.ErrType} {
		if count[err] < 20 {
			t.Errorf("error %d: just %d times", err, count[err])
		}
	}
}

// P19.1 (S4): facts by the hundred.
func TestQueryOfMany(t *testing.T) {
	var l []api.Fact
	for i := range 900 {
		l = append(l, fact(fmt.Sprintf("%d p %d %d", 900-i, i, i%9)))
	}
	query(t, l, "(let ?n sum ?x (?y) ((p (a ?x) (b ?y)))) (if = ?y 4)", "n=44950 y=4")
	query(t, l, "(p (a 899) (b ?y)) (p (a ?y))", "y=8 #1 #892")
	if got, _ := net.Query(program(t).Tmpls, l, conds(t, "(p (b ?y)) (p (b ?y))")); len(got) != 90000 {
		t.Errorf("got %d", len(got))
	}
}
