package net_test

import (
	"fmt"
	"slices"
	"strings"
	"testing"

	"tribunal/api"
	"tribunal/net"
)

// nodes is how many nodes the net of such a program has.
func nodes(t testing.TB, conds ...string) int {
	t.Helper()
	return ofText(t, conds...).n.Nodes()
}

// P19.1 (S3): Nodes of no rules, of rules without conditions, and of few; it is one at least, and at most 4 times as many as all conditions are, and 1. (Each net of these tests is asked.)
func TestNodesOfFew(t *testing.T) {
	for _, many := range []int{0, 1, 2, 32} {
		if got := nodes(t, slices.Repeat([]string{""}, many)...); got != 1 {
			t.Errorf("%d rules: %d nodes", many, got)
		}
	}
	for _, s := range forms() {
		if !may(t, s) {
			continue
		}
		got, alone := nodes(t, s), nodes(t, "")
		if got <= alone {
			t.Errorf("%s: %d nodes", s, got)
		}
		if both := nodes(t, "", s, ""); both != got {
			t.Errorf("%s: %d nodes, beside none %d", s, got, both)
		}
	}
}

// P19.1 (S3): how many nodes this net has: one ahead of all conditions, one for each test, two for each other one (what it asks for, and what that makes with what is ahead); those of one text at one place, and what is asked for at any two places, are there once.
func TestManyNodes(t *testing.T) {
	const let = "(let ?n count ?x () ((p (a ?x))))"
	for _, c := range []struct {
		many  int
		conds []string
	}{
		{2, []string{"(if < 1 2)"}}, {3, []string{"(p)"}}, {3, []string{"(not (p))"}}, {4, []string{"(if < 1 2) (e)"}},
		{4, []string{"(p) (p)"}}, {4, []string{"(p) (not (p))"}}, {5, []string{"(p) (as ?f (p))"}}, {8, []string{"(e) (p)", "(u) (p)"}}, {8, []string{"(e) (p)", "(u) (not (p))"}},
		{5, []string{let}}, {5, []string{"(p (a ?x)) " + let}}, {10, []string{"(e) " + let, "(u) " + let}}, {5, []string{let, "(p (a ?x))"}}, {4, []string{"(not (p)) (p)", "(not (p))"}},
	} {
		if got := nodes(t, c.conds...); got != c.many {
			t.Errorf("%s: %d nodes, want %d", c.conds, got, c.many)
		}
	}
}

// P19.1 (S3): how much more this net keeps of facts than of none: the facts, what they make of each pattern, what comes from both sides to each node of two, what is grouped, the groups, and what each rule holds for.
func TestManyHeld(t *testing.T) {
	for _, c := range []struct {
		more  int
		conds string
		facts []string
	}{
		{1, "", []string{"+1 p 1 1"}}, {0, "(p)", []string{"+1 p 1 1", "-1"}}, {2, "(e)", []string{"+1 p 1 1", "+2 u 1 1"}}, {0, "(e)", []string{"+1 p 1"}},
		{4, "(p)", []string{"+1 p 1 1"}}, {8, "(p)", []string{"+1 p 1 1", "+2 p 1 2"}}, {5, "(p (a 1))", []string{"+1 p 1 1", "+2 p 2 1"}},
		{2, "(not (p))", []string{"+1 p 1 1"}}, {5, "(not (p))", []string{"+1 p 1 1", "+2 p 1 1"}},
		{6, "(p) (p)", []string{"+1 p 1 1"}}, {14, "(p) (p)", []string{"+1 p 1 1", "+2 p 1 1"}}, {8, "(p) (e)", []string{"+1 p 1 1", "+2 e"}},
		{3, "(p (a ?x)) (if < ?x 1)", []string{"+1 p 1 1"}}, {4, "(p (a ?x)) (if < ?x 2)", []string{"+1 p 1 1"}},
		{4, "(let ?n count ?x () ((p (a ?x))))", []string{"+1 p 1 1"}}, {7, "(let ?n count ?x (?x) ((p (a ?x))))", []string{"+1 p 1 1"}}, {11, "(let ?n count ?x (?x) ((p (a ?x))))", []string{"+1 p 1 1", "+2 p 1 2"}},
	} {
		b := ofText(t, c.conds).comes(c.facts...)
		if got := b.n.Held() - b.held; got != c.more {
			t.Errorf("%s of %s: %d more, want %d", c.conds, c.facts, got, c.more)
		}
		if got := ofText(t, c.conds, c.conds).comes(c.facts...).n.Held(); got != b.n.Held() {
			t.Errorf("%s of %s: %d, twice %d", c.conds, c.facts, b.n.Held(), got)
		}
		b.empty()
	}
}

// P19.1 (S3): Nodes is the same behind any calls.
func TestNodesStay(t *testing.T) {
	m := newMaker(t, 20)
	for range 100 {
		b := of(t, m.right(t, 4))
		want := b.n.Nodes()
		for range 30 {
			m.step(b)
			if got := b.n.Nodes(); got != want {
				t.Fatalf("%s: %d nodes, then %d", brief(b.m.p), want, got)
			}
		}
		b.empty()
		if got := b.n.Nodes(); got != want {
			t.Fatalf("%s: %d nodes, then %d", brief(b.m.p), want, got)
		}
	}
}

// ofRules is a program of those conditions, each of a rule.
func (m maker) ofRules(l ...[]api.Cond) api.Program {
	p := api.Program{Tmpls: copied(m.tmpls)}
	for i, one := range l {
		p.Rules = append(p.Rules, api.Rule{Name: fmt.Sprint("r", i), Conds: copied(one)})
	}
	return p
}

// P19.1 (S3): of two rules whose first conditions are the same, these have the same nodes: both have no more than each alone, less what these have once.
func TestFirstShared(t *testing.T) {
	m, shared := newMaker(t, 21), 0
	for range 400 {
		first, known := m.conds(m.Intn(4), 3)
		a, b := slices.Clone(first), slices.Clone(first)
		for range m.Intn(3) {
			c, behind := m.cond(known, 2)
			a, known = append(a, c), behind
		}
		known = m.known(first)
		for range m.Intn(3) {
			c, behind := m.cond(known, 2)
			b, known = append(b, c), behind
		}
		only, alone, other, both := net.New(m.ofRules(first)), net.New(m.ofRules(a)), net.New(m.ofRules(b)), net.New(m.ofRules(a, b))
		if only == nil || alone == nil || other == nil || both == nil {
			continue
		}
		if got, most := both.Nodes(), alone.Nodes()+other.Nodes()-only.Nodes(); got > most || got < alone.Nodes() || got < other.Nodes() {
			t.Fatalf("%s, %s: %d nodes, want at most %d", brief(a), brief(b), got, most)
		}
		if only.Nodes() > 1 && alone.Nodes() > only.Nodes() && other.Nodes() > only.Nodes() {
			shared++
		}
	}
	if shared < 80 {
		t.Errorf("just %d", shared)
	}
	for _, s := range forms() {
		if may(t, s) && nodes(t, s+"(e)", s+"(u)", s) > nodes(t, s+"(e)")+nodes(t, s+"(u)")-nodes(t, s) {
			t.Errorf("%s: not shared", s)
		}
	}
}

// P19.5 (shared): a program with a rule twice, by two names, of other saliences and actions, has no more nodes than with it once; both hold for the same.
func TestTwice(t *testing.T) {
	m := newMaker(t, 22)
	for range 200 {
		p := m.right(t, 3)
		once := net.New(p)
		twice := copied(p)
		for i, r := range p.Rules {
			r = copied(r)
			r.Name, r.Salience, r.Acts = fmt.Sprint("again", i), m.Intn(2001)-1000, []api.Act{{Kind: api.ActHalt}}
			twice.Rules = slices.Insert(twice.Rules, m.Intn(len(twice.Rules)+1), r)
		}
		b := of(t, twice)
		if b.n.Nodes() > once.Nodes() {
			t.Fatalf("%s: %d nodes, twice %d", brief(p), once.Nodes(), b.n.Nodes())
		}
		for range 20 {
			m.step(b)
		}
		for i, r := range twice.Rules {
			for k, other := range twice.Rules {
				if strings.TrimPrefix(r.Name, "again") == strings.TrimPrefix(other.Name, "r") && !alikeRows(b.last[i], b.last[k]) {
					t.Fatalf("%s: %s, and again %s", brief(p), brief(lines(b.last[i])), brief(lines(b.last[k])))
				}
			}
		}
		b.empty()
	}
	l := []string{"(p (a ?x)) (let ?n count ?f (?x) ((as ?f (p (a ?x))))) (not (e)) (if < ?n 2)"}
	if once, many := nodes(t, l...), nodes(t, slices.Repeat(l, 32)...); many != once {
		t.Errorf("%d nodes, 32 times %d", once, many)
	}
}

// P19.1 (S3), P19.4 (nothing left): Held of no facts is the same, behind any facts that came and went, in whatever order these go; of facts it is more.
func TestHeld(t *testing.T) {
	m := newMaker(t, 23)
	for range 150 {
		b := of(t, m.right(t, 4))
		for range 3 {
			var ids []int
			for range 12 {
				f := m.fact()
				was := len(b.m.facts)
				if b.add(f); len(b.m.facts) > was {
					ids = append(ids, f.Id)
				}
			}
			if len(ids) > 0 && b.n.Held() == b.held {
				t.Fatalf("%s: %d of facts, too", brief(b.m.p), b.held)
			}
			m.Shuffle(len(ids), func(i, k int) { ids[i], ids[k] = ids[k], ids[i] })
			for _, id := range ids {
				b.del(id)
			}
			if held := b.n.Held(); held != b.held {
				t.Fatalf("%s: %d are held of no facts, ahead %d", brief(b.m.p), held, b.held)
			}
		}
	}
	b := ofText(t)
	for i := range 300 {
		b.take(fmt.Sprintf("+%d e", i+1))
		if held := b.n.Held(); held <= b.held+i {
			t.Fatalf("%d facts: %d", i+1, held)
		}
	}
	b.empty()
}

// unlike is conditions that are alike but for one thing, and hold for unlike things.
func unlike() [][]string {
	return [][]string{
		{"(w (t \"1\"))", "(w (n 1))", "(w (s 'a))", "(w (t \"a\"))", "(w (t \"'a\"))", "(w (s 'true))", "(w (b true))", "(w (t \"true\"))", "(w (n 2))", "(w (n 1/2))", "(w (n -1))", "(w)"},
		{"(p (a 1))", "(p (b 1))", "(u (a 1))", "(q (a 1))", "(p (a 1) (b 1))", "(p (b 1) (a 2))"},
		{"(as ?f (p))", "(p)", "(as ?g (p))", "(as ?f (u))", "(p (a ?f))"},
		{"(p (a ?x))", "(p (a ?y))", "(p (b ?x))", "(p (a ?x) (b ?x))", "(p (a ?x) (b ?y))", "(p (a ?y) (b ?x))"},
		{"(not (p))", "(not (p (a 1)))", "(not (p (a 1) (b 1)))", "(not (u))", "(not (p (a ?x) (b ?x)))", "(p)"},
		{"(q (a ?x)) (not (p (a ?x)))", "(q (a ?x)) (not (p (b ?x)))", "(q (a ?x)) (not (p (a ?y)))", "(q (a ?x)) (p (a ?x))"},
		{"(p (a ?x)) (if < ?x 1)", "(p (a ?x)) (if <= ?x 1)", "(p (a ?x)) (if = ?x 1)", "(p (a ?x)) (if != ?x 1)", "(p (a ?x)) (if > ?x 1)", "(p (a ?x)) (if >= ?x 1)", "(p (a ?x)) (if < 0 ?x)", "(p (a ?x)) (if < ?x (+ 1 1))", "(p (a ?x)) (if < ?x (- 1 1))", "(p (a ?x)) (if < ?x (* (+ ?x 1) 1))", "(p (a ?x)) (if < ?x (+ ?x (* 1 0)))", "(p (a ?x)) (if < (- ?x 1/2) 1)"},
		{"(let ?n count ?x () ((p (a ?x) (b ?y))))", "(let ?n sum ?x () ((p (a ?x) (b ?y))))", "(let ?n min ?x () ((p (a ?x) (b ?y))))", "(let ?n max ?x () ((p (a ?x) (b ?y))))", "(let ?n avg ?x () ((p (a ?x) (b ?y))))", "(let ?n set ?x () ((p (a ?x) (b ?y))))", "(let ?m count ?x () ((p (a ?x) (b ?y))))", "(let ?n sum ?y () ((p (a ?x) (b ?y))))", "(let ?n count ?x (?x) ((p (a ?x) (b ?y))))", "(let ?n count ?x (?y) ((p (a ?x) (b ?y))))", "(let ?n sum ?x (?x ?y) ((p (a ?x) (b ?y))))", "(let ?n sum ?y (?y) ((p (a ?x) (b ?y))))", "(let ?n sum ?x () ((u (a ?x) (b ?y))))", "(let ?n sum ?x () ((p (a ?x) (b ?y)) (if > ?x 1)))", "(let ?n sum ?x () ((p (a ?x) (b ?x))))", "(let ?n set ?x () ((as ?x (p))))", "(let ?n sum ?x () ((p (a ?x)) (p)))"},
		{"(p (a ?x)) (let ?n sum ?y () ((p (b ?y))))", "(p (a ?y)) (let ?n sum ?y () ((p (b ?y))))", "(p (a ?x)) (let ?n sum ?y (?y) ((p (b ?y))))", "(p (a ?y)) (let ?n sum ?y (?y) ((p (b ?y))))", "(let ?n sum ?y () ((p (a ?x)) (p (b ?y))))", "(let ?n sum ?y () ((p (b ?y))))"},
	}
}

// P19.1 (S3), P19.5: rules whose conditions are alike but for one thing hold each for its own: each tells what it tells in a program of it alone.
func TestAlikeButForOne(t *testing.T) {
	m := newMaker(t, 24)
	calls := []string{"+31 p 2 1", "+32 w 1 \"1\" 'a true", "+33 w 1/2 \"a\" 'true false", "+34 u 1 2", "+35 p 1 1", "+36 q 1 'a", "+37 w 2 \"'a\" 'b true", "-35", "+38 w -1 \"true\" 'b false", "+39 p 0 2", "-31", "+40 p 1 2", "-40", "-39", "+41 p 2 0", "+42 p 2 3", "-32", "+43 q 2 'a", "-36",
		"+44 p 2 2", "+45 w 1 \"q\" 'q true", "+46 w 0 \"1\" 'q false", "+47 w 0 \"q\" 'a false", "+48 w 5 \"a\" 'q false", "+49 w 1/2 \"q\" 'q false", "+50 w 2 \"q\" 'q false", "+51 w -1 \"q\" 'q false", "+52 p 3/2 1", "+53 p -1 1", "+54 p 1/2 1", "+55 p 5/4 1"}
	for i, l := range unlike() {
		b := ofText(t, l...)
		var alone []*both
		for _, s := range l {
			alone = append(alone, ofText(t, s))
		}
		differ := map[string]bool{}
		compare := func() {
			t.Helper()
			for k := range l {
				if !alikeRows(alone[k].last[0], b.last[k]) {
					t.Fatalf("%s: got %s, alone %s", l[k], brief(lines(b.last[k])), brief(lines(alone[k].last[0])))
				}
				for j := range l {
					if j != k && !alikeRows(b.last[j], b.last[k]) {
						differ[fmt.Sprint(j, " ", k)] = true
					}
				}
			}
		}
		for _, call := range calls {
			for _, one := range alone {
				one.take(call)
			}
			b.take(call)
			compare()
		}
		for k := range l {
			for j := range k {
				if !differ[fmt.Sprint(j, " ", k)] {
					t.Errorf("%d: %s and %s hold for the same", i, l[j], l[k])
				}
			}
		}
		for range 30 {
			m.step(b)
		}
		b.empty()
	}
}
