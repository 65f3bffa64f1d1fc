package net_test

import (
	"fmt"
	"runtime"
	"slices"
	"strings"
	"sync"
	"testing"
	"time"

	"tribunal/api"
	"tribunal/bind"
	"tribunal/check"
	"tribunal/expr"
	"tribunal/fold"
	"tribunal/group"
	"tribunal/net"
	"tribunal/schema"
)

// right is a random program that may be.
func (m maker) right(t testing.TB, many int) api.Program {
	t.Helper()
	for range 1000 {
		p := m.program(many)
		if err, _ := check.Check(p); err == api.OK {
			return p
		}
	}
	t.Fatal("no program may be")
	return api.Program{}
}

// P19.1 to P19.4: any calls, of random programs of up to four rules and four conditions, held against another telling: enough of each sort.
func TestAnyCalls(t *testing.T) {
	m, count := newMaker(t, 1), map[string]int{}
	for range 1800 {
		b := of(t, m.right(t, 4))
		for range 40 {
			was := len(b.m.facts)
			signs := ""
			for _, c := range m.step(b) {
				signs += map[bool]string{true: "+", false: "-"}[c.Add]
			}
			for _, two := range []string{"++", "--"} {
				for strings.Contains(signs, two) {
					signs = strings.ReplaceAll(signs, two, two[:1])
				}
			}
			count[fmt.Sprint(len(b.m.facts)-was, signs)]++
		}
		b.empty()
	}
	for sort, least := range map[string]int{"0": 5000, "1": 10000, "-1": 10000, "1+": 2000, "1-": 200, "1-+": 500, "-1-": 2000, "-1+": 150, "-1-+": 500} {
		if count[sort] < least {
			t.Errorf("%s: just %d times", sort, count[sort])
		}
	}
}

// byWords is what conditions hold for, by the words of the chapter: of bind, expr, fold and group.
func byWords(s *schema.Schema, facts []api.Fact, l []api.Cond) []api.Tuple {
	rows := []api.Tuple{{}}
	for _, c := range l {
		var with []api.Tuple
		for _, f := range facts {
			if t, is := bind.Match(s, c.Pat, c.As, f); is {
				with = append(with, t)
			}
		}
		if c.Kind == api.CondLet {
			n := group.New(fold.Kind(c.Fold), c.Var, c.Arg, c.By)
			for _, t := range byWords(s, facts, c.Over) {
				n.Take(api.Delta{Add: true, T: t})
			}
			with = n.All()
		}
		var next []api.Tuple
		for _, t := range rows {
			agree := false
			for _, other := range with {
				if one, is := bind.Merge(t, other); is && c.Kind != api.CondNot {
					next = append(next, one)
				} else if is {
					agree = true
				}
			}
			if c.Kind == api.CondNot && !agree || c.Kind == api.CondIf && expr.Test(c.Op, c.A, c.B, t.Binds) {
				next = append(next, t)
			}
		}
		rows = next
	}
	return bind.Sort(rows)
}

// P19.1 (S1): what conditions hold for is what the chapter's words make of the facts, by the layers below.
func TestByWords(t *testing.T) {
	m := newMaker(t, 10)
	for range 500 {
		p := m.right(t, 4)
		b := of(t, p)
		s, _, _ := schema.New(p.Tmpls)
		for range 25 {
			m.step(b)
			for i, r := range p.Rules {
				if got, want := b.n.Set(i), byWords(s, b.m.facts, r.Conds); !alikeRows(got, want) {
					t.Fatalf("%s: got %s, want %s", brief(r), brief(lines(got)), brief(lines(want)))
				}
			}
		}
	}
}

// P19.2 (as told): Set is what all changes so far make of what a new net tells, told by the changes alone, in a long row of calls.
func TestAsTold(t *testing.T) {
	m, most := newMaker(t, 11), 0
	for range 60 {
		p := m.right(t, 4)
		n := net.New(p)
		var sets [][]api.Tuple
		for i := range p.Rules {
			sets = append(sets, n.Set(i))
		}
		for range 150 {
			got := n.Add(m.fact())
			if m.Intn(2) == 0 {
				got = append(got, n.Del(m.number())...)
			}
			for i := range p.Rules {
				var is bool
				if sets[i], is = by(sets[i], i, got); !is {
					t.Fatalf("%s: %s", brief(p), brief(told(got)))
				}
				most = max(most, len(sets[i]))
			}
		}
		for i := range p.Rules {
			if !alikeRows(n.Set(i), sets[i]) {
				t.Fatalf("%s: got %s, want %s", brief(p), brief(lines(n.Set(i))), brief(lines(sets[i])))
			}
		}
	}
	if most < 100 {
		t.Errorf("just %d", most)
	}
}

// sameState fails, unless two nets of one program tell the same of each rule, and hold as much.
func sameState(t *testing.T, p api.Program, a, b *net.Net) {
	t.Helper()
	for i := range p.Rules {
		if x, y := a.Set(i), b.Set(i); !alikeRows(x, y) {
			t.Fatalf("%s: rule %d: %s and %s", brief(p), i, brief(lines(x)), brief(lines(y)))
		}
	}
	if a.Held() != b.Held() || a.Nodes() != b.Nodes() {
		t.Fatalf("%s: %d and %d are held, by %d and %d nodes", brief(p), a.Held(), b.Held(), a.Nodes(), b.Nodes())
	}
}

// come is facts that may be, each of another number.
func (m maker) come(many int) []api.Fact {
	var l []api.Fact
	s := newModel(api.Program{Tmpls: m.tmpls})
	for len(l) < many {
		was := len(s.facts)
		f := m.fact()
		if s.add(f); len(s.facts) > was {
			l = append(l, f)
		}
	}
	return l
}

// P19.3 (any order), P3: two nets of one program and the same facts tell the same, Held too, whatever the order in which these came, and whatever came and went between; also while they go.
func TestAnyOrder(t *testing.T) {
	m := newMaker(t, 12)
	for range 300 {
		p := m.right(t, 4)
		few := m.come(9)
		a, b := net.New(p), net.New(p)
		for _, f := range few {
			a.Add(f)
		}
		m.Shuffle(len(few), func(i, k int) { few[i], few[k] = few[k], few[i] })
		for i, f := range few {
			for _, other := range m.come(3) {
				if !slices.ContainsFunc(few[:i], func(f api.Fact) bool { return f.Id == other.Id }) {
					b.Add(other)
					b.Del(other.Id)
				}
			}
			b.Add(f)
			if m.Intn(3) == 0 {
				b.Del(f.Id)
				b.Add(f)
			}
		}
		sameState(t, p, a, b)
		for _, f := range few {
			if x, y := a.Del(f.Id), b.Del(f.Id); !alikeChanges(x, y) {
				t.Fatalf("%s: %s and %s", brief(p), brief(told(x)), brief(told(y)))
			}
			sameState(t, p, a, b)
		}
		sameState(t, p, a, net.New(p))
	}
}

// P19.3, P19.4: in each order of a few facts that come, and in each order in which they go.
func TestAllOrders(t *testing.T) {
	few := facts("1 p 1 1", "2 p 1 2", "3 p 2 1", "4 q 1 'a", "5 e")
	p := program(t, "(p (a ?x)) (p (b ?x)) (not (q (a ?x)))", "(q (a ?x)) (let ?n sum ?y (?x) ((p (a ?x) (b ?y)) (not (e))))", "(let ?m set ?n () ((let ?n max ?x (?y) ((p (a ?x) (b ?y))))))", "(as ?f (p)) (let ?g max ?h () ((as ?h (p)))) (if = ?f ?g)")
	full, empty := net.New(p), net.New(p)
	for _, f := range few {
		full.Add(f)
	}
	for i, order := range permutations(len(few)) {
		b := of(t, p)
		for _, k := range order {
			b.add(few[k])
		}
		sameState(t, p, b.n, full)
		for k := range few {
			b.del(few[order[(k*2+i)%len(few)]].Id)
		}
		sameState(t, p, b.n, empty)
	}
}

// P19.1: a rule in a program of many tells the same as in a program of it alone.
func TestRuleAlone(t *testing.T) {
	m := newMaker(t, 13)
	for range 200 {
		p := m.right(t, 6)
		n := net.New(p)
		var alone []*net.Net
		for _, r := range p.Rules {
			alone = append(alone, net.New(api.Program{Tmpls: p.Tmpls, Rules: []api.Rule{r}}))
		}
		for range 40 {
			f, id := m.fact(), m.number()
			for _, call := range []func(n *net.Net) []api.Change{func(n *net.Net) []api.Change { return n.Add(f) }, func(n *net.Net) []api.Change { return n.Del(id) }} {
				var want []api.Change
				for i, one := range alone {
					for _, c := range call(one) {
						c.Rule = i
						want = append(want, c)
					}
				}
				if got := call(n); !alikeChanges(got, want) {
					t.Fatalf("%s: got %s, want %s", brief(p), brief(told(got)), brief(told(want)))
				}
			}
		}
		for i, one := range alone {
			if !alikeRows(n.Set(i), one.Set(0)) {
				t.Fatalf("%s: got %s, want %s", brief(p), brief(lines(n.Set(i))), brief(lines(one.Set(0))))
			}
		}
	}
}

// P3: two nets, of one program and of others, know nothing of each other.
func TestNetsAlone(t *testing.T) {
	m := newMaker(t, 14)
	for range 60 {
		p := m.right(t, 3)
		l := []*both{of(t, p), of(t, p), of(t, m.right(t, 3))}
		for range 30 {
			m.step(one(m, l...))
			for _, b := range l {
				b.check()
			}
		}
		of(t, p)
	}
}

// rounds is all that a net tells of some calls, that are the same for the same seed.
func rounds(t testing.TB, n *net.Net, many int, seed int64) []string {
	m := newMaker(t, seed)
	var l []string
	for range 40 {
		l = append(l, told(n.Add(m.fact()))...)
		l = append(l, told(n.Del(m.number()))...)
		for i := range many {
			l = append(l, lines(n.Set(i))...)
		}
		l = append(l, fmt.Sprint(n.Held(), n.Nodes()))
	}
	return l
}

// P3: the same calls on another net of the same program tell the same.
func TestSameAgain(t *testing.T) {
	m := newMaker(t, 15)
	for range 60 {
		p := m.right(t, 4)
		want := rounds(t, net.New(p), len(p.Rules), 16)
		for range 3 {
			if got := rounds(t, net.New(p), len(p.Rules), 16); !slices.Equal(got, want) {
				t.Fatalf("%s: another thing is told", brief(p))
			}
		}
	}
}

// P3: nets beside one another, each in a goroutine of its own, tell what each tells alone; so do Set, Held and Nodes of one, asked by many at once, and Query.
func TestBeside(t *testing.T) {
	m := newMaker(t, 17)
	shared := ofText(t, "(p (a ?x)) (let ?n count ?f (?x) ((as ?f (p (a ?x)))))", "(q (a ?x)) (not (p (a ?x)))", "(p) (p (a ?x))")
	few := m.come(12)
	for _, f := range few {
		shared.add(f)
	}
	held, c := shared.n.Held(), shared.m.p.Rules[0].Conds
	var all sync.WaitGroup
	for i := range int64(12) {
		p := m.right(t, 3)
		alone := rounds(t, net.New(p), len(p.Rules), i)
		all.Go(func() {
			if got := rounds(t, net.New(p), len(p.Rules), i); !slices.Equal(got, alone) {
				t.Errorf("got %s, want %s", brief(got), brief(alone))
			}
			for k := range 30 {
				if !alikeRows(shared.n.Set(k%3), shared.last[k%3]) || shared.n.Held() != held {
					t.Error("another thing is told")
				}
				if got, err := net.Query(m.tmpls, few, c); err != api.OK || !alikeRows(got, shared.last[0]) {
					t.Error("Query tells another thing")
				}
			}
		})
	}
	all.Wait()
	if len(shared.last[0]) == 0 || len(shared.last[2]) == 0 {
		t.Error("none is told")
	}
}

// P1, P19.1, P19.4: facts by the hundred, values of 300 digits, 32 rules of 12 conditions, are told at once.
func TestVeryMany(t *testing.T) {
	begin := time.Now()
	l := []string{"(p (a ?x)) (u (a ?x))", "(let ?n sum ?x (?y) ((p (a ?x) (b ?y))))", "(p (a ?x) (b ?y)) (not (u (a ?x)))", "(let ?n max ?f () ((as ?f (p))))", "(p (b 1)) (p (b 2))"}
	b := ofText(t, l...).n
	for i := range 600 {
		b.Add(fact(fmt.Sprintf("%d p %s%03d %d", i+1, nines(297), i, i%20)))
		b.Add(fact(fmt.Sprintf("%d u %s%03d 1", i+1001, nines(297), i+300)))
	}
	if len(b.Set(0)) != 300 || len(b.Set(1)) != 20 || len(b.Set(2)) != 300 || line(b.Set(3)[0]) != "n=#600" || len(b.Set(4)) != 900 {
		t.Errorf("got %d, %d, %d, %d", len(b.Set(0)), len(b.Set(1)), len(b.Set(2)), len(b.Set(4)))
	}
	for i := range 600 {
		b.Del(600 - i)
		b.Del(i + 1001)
	}
	if fresh := ofText(t, l...).n; b.Held() != fresh.Held() || len(b.Set(0)) > 0 {
		t.Errorf("%d are held", b.Held())
	}
	var wide string
	for i := range 3 {
		wide += fmt.Sprintf("(p (a ?x)) (not (u (a ?x))) (let ?m%d count ?y (?x) ((p (a ?x) (b ?y)))) (if > ?m%d 0) ", i, i)
	}
	many := of(t, newMaker(t, 18).ofRules(slices.Repeat([][]api.Cond{conds(t, wide)}, 32)...))
	for i := range 6 {
		if got := many.add(fact(fmt.Sprintf("%d p 1 %d", i+1, i))); len(got) == 0 {
			t.Fatal("nothing is told")
		}
	}
	many.call("+9 q 1 'a")
	many.empty()
	if took := time.Since(begin); took > time.Minute {
		t.Errorf("%v", took)
	}
}

// P3, P19.4: what is gone is not kept, nor what was told: the heap does not grow by what comes and goes.
func TestNothingKept(t *testing.T) {
	b := ofText(t, append(broad(), "(w (t ?t)) (w (t ?t)) (not (w (t ?t) (n 2)))", "(let ?n max ?t (?t) ((w (t ?t))))", "(w (t ?t)) (let ?n set ?t () ((w (t ?t)))) (if = ?t \"\")")...)
	goRound := func(rounds int) {
		for i := range rounds {
			// The texts are made anew each time, so that one that is kept takes room of its own.
			f := fact("1 w 1 \"\" 'a true")
			f.Id, f.Vals[1] = i+1, text(fmt.Sprintf("%099d", i))
			b.n.Add(f)
			b.n.Add(f)
			f.Id += 500000
			b.n.Add(f)
			b.n.Set(10)
			b.n.Del(f.Id)
			b.n.Del(i + 1)
			b.n.Del(i + 1)
		}
	}
	goRound(300)
	was := heap()
	goRound(5000)
	if more := heap() - was; more > 1000000 {
		t.Errorf("%d bytes more", more)
	}
	b.empty()
	b.check()
	runtime.KeepAlive(b)
}

// heap is how many bytes are in use.
func heap() int64 {
	runtime.GC()
	var m runtime.MemStats
	runtime.ReadMemStats(&m)
	return int64(m.HeapAlloc)
}
