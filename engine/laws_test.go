package engine_test

import (
	"fmt"
	"math"
	"runtime"
	"slices"
	"strconv"
	"strings"
	"sync"
	"testing"
	"time"

	"tribunal/api"
	"tribunal/engine"
	"tribunal/show"
)

// P21.1 to P21.5: any calls, of random programs of up to four rules, held against another telling behind each of them: enough of each sort.
func TestAnyCalls(t *testing.T) {
	m, count := newMaker(t, 1), map[string]int{}
	for range 900 {
		p := m.right(t, 4)
		b := of(t, p)
		for range 30 {
			m.step(b)
			if m.Intn(6) == 0 {
				l, stop := b.run(m.fuel())
				count[fmt.Sprint("stop ", stop)]++
				for _, f := range l {
					count[fmt.Sprint("error ", int(f.Err))]++
					if f.Done < len(p.Rules[f.Rule].Acts) && f.Done > 0 {
						count["in the middle"]++
					}
					count["prints"] += min(len(f.Prints), 1)
				}
			}
			if m.Intn(10) == 0 {
				b.query(one(m, p.Rules...).Conds)
			}
		}
		b.empty()
	}
	for sort, least := range map[string]int{"stop 1": 800, "stop 2": 30, "stop 3": 800, "error 0": 1500, "error 3": 100, "error 21": 20, "error 31": 10, "in the middle": 100, "prints": 400} {
		if count[sort] < least {
			t.Errorf("%s: just %d times", sort, count[sort])
		}
	}
}

// renumbered is tuples of facts' numbers, each of which is that of its place among all facts, from 1 on.
func renumbered(facts []api.Fact, l []api.Tuple) []api.Tuple {
	places := map[int]int{}
	for i, f := range facts {
		places[f.Id] = i + 1
	}
	l = copied(l)
	for i := range l {
		for k, b := range l[i].Binds {
			if b.V.Kind == api.Id {
				id, _ := strconv.Atoi(b.V.S)
				l[i].Binds[k].V.S = fmt.Sprint(places[id])
			}
		}
		for k, id := range l[i].Ids {
			l[i].Ids[k] = places[id]
		}
	}
	return l
}

// fresh is a new engine that is told the facts alone that are there; of the same numbers, if others come and go between.
func fresh(t testing.TB, p api.Program, facts []api.Fact, same bool) *engine.Engine {
	t.Helper()
	e, _, _ := engine.New(p)
	for _, f := range facts {
		id, err := e.Assert(f.Tmpl, f.Vals)
		for same && id < f.Id {
			e.Retract(id)
			id, err = e.Assert(f.Tmpl, f.Vals)
		}
		if err != api.OK || same && id != f.Id {
			t.Fatalf("%s: got %d, %d", factLine(f), id, err)
		}
	}
	return e
}

// P21.2 (denotation): behind any calls, and runs, each rule's Set is that of a new engine that is told the facts alone that are there, and what Query tells of the rule's conditions.
func TestDenotation(t *testing.T) {
	m, calls, rows, exact := newMaker(t, 2), 0, 0, 0
	for range 500 {
		p := m.right(t, 4)
		b := of(t, p)
		// Texts of sets stand in another order once their members have other numbers.
		same := strings.Contains(show.Show(p), " set ")
		for range 15 {
			m.step(b)
			facts := owned(b.e.Facts())
			other := fresh(t, p, facts, same)
			for i, r := range p.Rules {
				got := owned(b.e.Set(i))
				told := got
				if !same {
					told = renumbered(facts, got)
					exact += len(got)
				}
				if want := other.Set(i); !alikeRows(told, want) {
					t.Fatalf("%s, of %s: got %s, want %s", brief(r), brief(factLines(facts)), brief(lines(got)), brief(lines(want)))
				}
				if want, err := b.e.Query(r.Conds); err != api.OK || !alikeRows(got, want) {
					t.Fatalf("%s, of %s: got %s, want %s, %d", brief(r), brief(factLines(facts)), brief(lines(got)), brief(lines(want)), err)
				}
				rows += len(got)
			}
			if other.Held() != b.e.Held() {
				t.Fatalf("%s: %d and %d are held", brief(p), other.Held(), b.e.Held())
			}
			calls++
		}
	}
	if calls < 7500 || rows < 15000 || exact < 10000 {
		t.Errorf("just %d, %d, %d", calls, rows, exact)
	}
}

// P21.1 (U3), P21.3: what is to be done is of what Set tells, each once, in the order that it is fired in by one run with fuel for all, if that changes no fact; behind that nothing is to be done.
func TestAgendaIsOfSets(t *testing.T) {
	m, many := newMaker(t, 3), 0
	for range 400 {
		p := m.right(t, 4)
		for i := range p.Rules {
			p.Rules[i].Acts = slices.DeleteFunc(p.Rules[i].Acts, func(a api.Act) bool { return a.Kind != api.ActPrint })
		}
		b := of(t, p)
		for range 12 {
			m.step(b)
		}
		l := owned(b.e.Agenda())
		for i, c := range l {
			if !c.Add || !among(b.e.Set(c.Rule), c.T) || slices.Contains(todo(l[:i]), todo(l[i : i+1])[0]) {
				t.Fatalf("%s of %s", todo(l[i:i+1]), brief(todo(l)))
			}
		}
		fired, stop := b.run(max(len(l), 1))
		if stop != api.StopEmpty || len(fired) != len(l) || len(b.e.Agenda()) > 0 {
			t.Fatalf("got %s, %d, of %s", brief(firedLines(fired)), stop, brief(todo(l)))
		}
		for i, f := range fired {
			if f.Rule != l[i].Rule || !alike(f.T, l[i].T) {
				t.Fatalf("got %s, of %s", brief(firedLines(fired)), brief(todo(l)))
			}
		}
		many += len(l)
	}
	if many < 1000 {
		t.Errorf("just %d", many)
	}
}

// goesOn is what an engine tells of calls that come behind, that are the same for the same seed.
func goesOn(t testing.TB, e *engine.Engine, rules int, seed int64) []string {
	m := newMaker(t, seed)
	var l []string
	for range 10 {
		id, err := e.Assert(m.fact())
		l = append(l, fmt.Sprint(id, err))
		if m.Intn(2) == 0 {
			id, err = e.Modify(id-m.Intn(3), []api.Put{{Name: "a", V: num("2")}})
			l = append(l, fmt.Sprint(id, err), fmt.Sprint(e.Retract(id-m.Intn(5))))
		}
		fired, stop := e.Run(m.Intn(4))
		l = append(l, fmt.Sprint(firedLines(fired), stop))
		s := stateOf(e, rules)
		l = append(l, fmt.Sprint(factLines(s.facts), todo(s.todo), s.held))
		for i := range rules {
			l = append(l, lines(s.sets[i])...)
		}
		// So that few facts stay.
		for len(s.facts) > 8 {
			e.Retract(s.facts[0].Id)
			s.facts = s.facts[1:]
		}
	}
	return l
}

// P21.4 (fuel): two runs, one behind the other, tell what one of both fuels tells, if the first one stops for its fuel, and leave the same; so do many, of fuel 1 each.
func TestTwoRuns(t *testing.T) {
	m, split, stops := newMaker(t, 4), 0, map[int]int{}
	for i := range 220 {
		p := m.right(t, 4)
		b := of(t, p)
		for range 8 {
			m.step(b)
		}
		for n := range 7 {
			whole := b.again()
			want, wantStop := whole.Run(n)
			for first := -1; first <= n; first++ {
				parts := b.again()
				got, stop := parts.Run(first)
				if stop != api.StopFuel {
					continue
				}
				rest, stop := parts.Run(n - max(first, 0))
				if got = append(got, rest...); !alikeFired(got, want) || stop != wantStop {
					t.Fatalf("%s: %d and %d: got %s, %d, want %s, %d", brief(p.Rules), first, n-first, brief(firedLines(got)), stop, brief(firedLines(want)), wantStop)
				}
				one := b.again()
				one.Run(n)
				if s := unlike(stateOf(parts, len(p.Rules)), stateOf(one, len(p.Rules))); s != "" {
					t.Fatalf("%s: %d and %d: %s", brief(p.Rules), first, n-first, s)
				}
				if first == n/2 && !slices.Equal(goesOn(t, parts, len(p.Rules), int64(i)), goesOn(t, one, len(p.Rules), int64(i))) {
					t.Fatalf("%s: %d and %d: another thing is told behind", brief(p.Rules), first, n-first)
				}
				split++
				stops[stop]++
			}
			parts, stop := b.again(), api.StopFuel
			var got []api.Fired
			for range n {
				if stop == api.StopFuel {
					var one []api.Fired
					one, stop = parts.Run(1)
					got = append(got, one...)
				}
			}
			if !alikeFired(got, want) || n > 0 && stop != wantStop {
				t.Fatalf("%s: %d of 1: got %s, %d, want %s, %d", brief(p.Rules), n, brief(firedLines(got)), stop, brief(firedLines(want)), wantStop)
			}
		}
	}
	if split < 2000 || stops[api.StopEmpty] < 100 || stops[api.StopHalt] < 20 || stops[api.StopFuel] < 1000 {
		t.Errorf("just %d, %v", split, stops)
	}
}

// P21.5 (errors): of an action that is wrong nothing is done, but of those ahead of it: the facts, and the numbers, are those of a program that has the actions ahead of it alone.
func TestWrongActionAlone(t *testing.T) {
	m, wrong := newMaker(t, 5), 0
	for range 2500 {
		p := m.right(t, 1)
		b := of(t, p)
		for range 6 {
			b.assert(m.fact())
		}
		l, _ := b.run(1)
		if len(l) == 0 || l[0].Err == api.OK {
			continue
		}
		wrong++
		q := copied(p)
		q.Rules[0].Acts = q.Rules[0].Acts[:l[0].Done]
		short, _, _ := engine.New(q)
		for _, call := range b.calls {
			call(short)
		}
		if s := unlike(stateOf(b.e, 1), stateOf(short, 1)); s != "" {
			t.Fatalf("%s: %s", brief(p.Rules), s)
		}
		x, _ := b.e.Assert("e", nil)
		if y, _ := short.Assert("e", nil); x != y {
			t.Fatalf("%s: the next numbers are %d and %d", brief(p.Rules), x, y)
		}
	}
	if wrong < 100 {
		t.Errorf("just %d", wrong)
	}
}

// P3: engines, of one program and of others, know nothing of each other.
func TestEnginesAlone(t *testing.T) {
	m := newMaker(t, 6)
	for range 60 {
		p := m.right(t, 3)
		l := []*both{of(t, p), of(t, p), of(t, m.right(t, 3))}
		for range 20 {
			m.step(one(m, l...))
			for _, b := range l {
				b.check()
			}
		}
		of(t, p)
	}
}

// P3: the same calls on another engine of the same program tell the same.
func TestSameAgain(t *testing.T) {
	m := newMaker(t, 7)
	for range 60 {
		p := m.right(t, 4)
		b := of(t, p)
		want := goesOn(t, b.again(), len(p.Rules), 8)
		for range 4 {
			if got := goesOn(t, b.again(), len(p.Rules), 8); !slices.Equal(got, want) {
				t.Fatalf("%s: another thing is told", brief(p))
			}
		}
	}
}

// P3: engines beside one another, each in a goroutine of its own, tell what each tells alone; so do Set, Facts, Agenda, Held and Query of one, asked by many at once.
func TestBeside(t *testing.T) {
	m := newMaker(t, 9)
	shared := ofText(t, broad).comes("p 1 2", "q 1 'a", "w 1 \"t\" 'a true", "u 3 4", "e", "p 2 2")
	shared.run(3)
	want := stateOf(shared.e, 9)
	var all sync.WaitGroup
	for i := range int64(12) {
		p := m.right(t, 3)
		b := of(t, p)
		alone := goesOn(t, b.again(), len(p.Rules), i)
		all.Go(func() {
			if got := goesOn(t, b.again(), len(p.Rules), i); !slices.Equal(got, alone) {
				t.Errorf("got %s, want %s", brief(got), brief(alone))
			}
			for k := range 20 {
				if s := unlike(stateOf(shared.e, 9), want); s != "" {
					t.Error(s)
				}
				if rows, err := shared.e.Query(shared.m.p.Rules[k%9].Conds); err != api.OK || !alikeRows(rows, want.sets[k%9]) {
					t.Error("Query tells another thing")
				}
			}
		})
	}
	all.Wait()
}

// P1, P21.1, P21.2: facts by the hundred, values of 300 digits, 32 rules of 12 conditions and 12 actions, are done at once.
func TestVeryMany(t *testing.T) {
	begin := time.Now()
	b := full(t, "(rule r 1 ((as ?f (u (a ?x))) (if < ?x 200)) ((modify ?f (a (+ ?x 200)) (b 1)))) (rule s 0 ((let ?n sum ?x (?y) ((u (a ?x) (b ?y))))) ((print ?n))) (rule v -1 ((u (a ?x)) (u (b ?x))) ()) (rule w -2 ((as ?f (u (b 1)))) ((retract ?f)))")
	b.e.Run(1000)
	l := b.e.Facts()
	if len(l) != 100 || len(b.e.Agenda()) > 0 || factLine(l[0]) != "201 u 200 0" || lines(b.e.Set(1))[0] != "n=24950 y=0" {
		t.Errorf("got %s, %s", brief(factLines(l)), brief(lines(b.e.Set(1))))
	}
	for _, f := range l {
		b.e.Retract(f.Id)
	}
	if b.e.Held() != b.held {
		t.Errorf("%d are held, ahead %d", b.e.Held(), b.held)
	}
	long := ofText(t, "(rule r 0 ((as ?f (p (a ?x))) (let ?n max ?y () ((p (a ?y))))) ((assert q (a (- ?x 7)) (s 'a)) (modify ?f (a (- ?n 1)))))")
	long.comes("p " + nines(300) + " 0").run(30)
	if x := lines(long.e.Set(0)); len(x) != 1 || x[0] != fmt.Sprintf("f=#61 n=%s69 x=%s69 #61", nines(298), nines(298)) {
		t.Errorf("got %s", x)
	}
	wide := of(t, wide(t)).comes("p 1 0", "p 2 0")
	fired, stop := wide.e.Run(100)
	if len(fired) != 64 || stop != api.StopEmpty {
		t.Fatalf("got %d, %d", len(fired), stop)
	}
	for i, f := range fired {
		// Each makes eight facts known, till there are 300.
		want := map[bool]string{true: " > 1 > 1 > 1 > 1: 12", false: " > 1: 1, error 2"}[i < 37]
		if i == 37 {
			want = " > 1 > 1: 4, error 2"
		}
		if i%2 == 0 {
			want = strings.ReplaceAll(want, "> 1", "> 2")
		}
		if got := firedLine(f); f.Rule != 31-i/2 || !strings.HasSuffix(got, want) {
			t.Fatalf("%d: got %s, want %s", i, got, want)
		}
	}
	if took := time.Since(begin); took > time.Minute {
		t.Errorf("%v", took)
	}
}

// wide is a program of as many rules, conditions and actions as there may be.
func wide(t testing.TB) api.Program {
	t.Helper()
	p := program(t, fmt.Sprintf("(rule r 0 (%s) (%s))", strings.Repeat("(p (a ?x)) (not (u (a ?x)))", 6), strings.Repeat("(print ?x) (assert e) (assert q (a ?x) (s 'a))", 4)))
	p.Rules = slices.Repeat(p.Rules, 32)
	for i := range p.Rules {
		p.Rules[i].Name, p.Rules[i].Salience = fmt.Sprint("r", i), i
	}
	return p
}

// heap is how many bytes are in use.
func heap() int64 {
	runtime.GC()
	var m runtime.MemStats
	runtime.ReadMemStats(&m)
	return int64(m.HeapAlloc)
}

// P3: what is gone is not kept, nor what was told, nor what was done: the heap does not grow by what comes and goes.
func TestNothingKept(t *testing.T) {
	b := ofText(t, "(rule r 0 ((as ?f (w (n ?n) (t ?t)))) ((print ?t) (modify ?f (n (+ ?n 1))))) (rule s -1 ((let ?l set ?t () ((w (t ?t)))) (not (p))) ((print ?l))) (rule u 0 ((w (n 3) (t ?t))) ((halt)))")
	goRound := func(rounds int) {
		for i := range rounds {
			// The texts are made anew each time, so that one that is kept takes room of its own.
			id, _ := b.e.Assert("w", []api.Value{num("0"), text(fmt.Sprintf("%099d", i)), sym("a"), read("true")})
			b.e.Assert("w", []api.Value{num("0"), text(fmt.Sprintf("%0101d", i)), sym("a"), read("true")})
			b.e.Run(i % 4)
			b.e.Query(b.m.p.Rules[0].Conds)
			b.e.Modify(id, []api.Put{{Name: "t", V: text(fmt.Sprintf("%098d", i))}})
			for _, f := range b.e.Facts() {
				b.e.Retract(f.Id)
			}
		}
	}
	goRound(300)
	was := heap()
	goRound(4000)
	if more := heap() - was; more > 1000000 {
		t.Errorf("%d bytes more", more)
	}
	if b.e.Held() != b.held {
		t.Errorf("%d are held, ahead %d", b.e.Held(), b.held)
	}
	runtime.KeepAlive(b)
}

// P1, P21.1 (U2): fuel at the integers' ends is told at once, where a rule halts, or nothing is left.
func TestFuelAtTheEnds(t *testing.T) {
	b := ofText(t, "(rule r 0 ((as ?f (p (a ?x))) (if < ?x 500)) ((modify ?f (a (+ ?x 1))))) (rule s -1 ((p (a 500))) ((halt)))").comes("p 0 0")
	for _, fuel := range []int{math.MinInt, math.MinInt + 1, -1 << 32, -1 << 31, 0} {
		if l, stop := b.e.Run(fuel); len(l) > 0 || stop != api.StopFuel {
			t.Errorf("%d: got %d, %d", fuel, len(l), stop)
		}
	}
	if l, stop := b.e.Run(math.MaxInt); len(l) != 501 || stop != api.StopHalt {
		t.Errorf("got %d, %d", len(l), stop)
	}
	if l, stop := b.e.Run(math.MaxInt); len(l) != 0 || stop != api.StopEmpty {
		t.Errorf("got %d, %d", len(l), stop)
	}
}
