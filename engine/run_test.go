package engine_test

import (
	"fmt"
	"math"
	"slices"
	"strings"
	"testing"

	"tribunal/api"
)

// P21.1 (U2), P21.4: with nothing to do a run stops as empty, whatever its fuel: of no rules, of rules that hold for nothing, and of those of which all was done.
func TestNothingToDo(t *testing.T) {
	for _, rules := range []string{"", "(rule r 0 ((p)) ((halt)))", "(rule r 0 ((if < 2 1)) ()) (rule s 1000 ((e) (not (e))) ((print 1)))", "(rule r 0 () ()) (rule s 0 ((not (p))) ((print 1)))"} {
		b := ofText(t, rules)
		b.run(2)
		for _, fuel := range []int{0, 1, -1, 2, 1000, math.MinInt, math.MinInt + 1, math.MaxInt, math.MaxInt - 1, 1 << 32, -1 << 32} {
			b.runs(fuel, api.StopEmpty)
		}
	}
}

// P21.1 (U2), P21.4: with something to do: of fuel 0 and less nothing is done, of others as many as that, but no more than there are.
func TestFuel(t *testing.T) {
	const rules = "(rule r 0 ((p (a ?x))) ((print ?x)))"
	all := []string{"0 x=9 #5 > 9: 1", "0 x=7 #4 > 7: 1", "0 x=5 #3 > 5: 1", "0 x=3 #2 > 3: 1", "0 x=1 #1 > 1: 1"}
	for _, fuel := range []int{math.MinInt, math.MinInt + 1, -1 << 32, -1, 0, 1, 2, 3, 4, 5, 6, 7, 100, 1 << 31, 1 << 32, 1<<32 + 2, math.MaxInt - 1, math.MaxInt} {
		b := ofText(t, rules).comes("p 1 0", "p 3 0", "p 5 0", "p 7 0", "p 9 0")
		many, stop := min(max(fuel, 0), 5), api.StopFuel
		if fuel >= 5 {
			stop = api.StopEmpty
		}
		b.runs(fuel, stop, all[:many]...)
		if many < 5 {
			b.runs(0, api.StopFuel).runs(-1, api.StopFuel).runs(math.MinInt, api.StopFuel)
			b.runs(1, map[bool]int{true: api.StopFuel, false: api.StopEmpty}[many < 4], all[many])
		}
		b.runs(math.MaxInt, api.StopEmpty, all[min(many+1, 5):]...)
		b.runs(fuel, api.StopEmpty)
	}
}

// P21.1 (U2): a halt first, in the middle and last: what stands behind it is not done, it is counted, and the run stops for it, also with no fuel left, and with nothing left to do; the next run goes on.
func TestHalt(t *testing.T) {
	for acts, want := range map[string]string{
		"(halt)": ": 1", "(halt) (print 1)": ": 1", "(print 1) (halt) (print 2)": " > 1: 2", "(print 1) (print 2) (halt)": " > 1 > 2: 3", "(halt) (halt)": ": 1", "(assert e) (halt) (assert e)": ": 2", "(halt) (print (/ 1 0))": ": 1",
	} {
		for _, fuel := range []int{1, 2, 3, 1000, math.MaxInt} {
			b := ofText(t, "(rule r 5 ((p (a ?x))) ("+acts+")) (rule s 0 ((p (a ?x))) ())").comes("p 1 0", "p 2 0")
			b.runs(0, api.StopFuel)
			b.runs(fuel, api.StopHalt, "0 x=2 #2"+want)
			b.runs(fuel, api.StopHalt, "0 x=1 #1"+want)
			b.to("1 x=2 #2", "1 x=1 #1")
			b.runs(0, api.StopFuel).runs(2, api.StopEmpty, "1 x=2 #2: 0", "1 x=1 #1: 0")
			id, _ := b.assert(fact("p 3 0"))
			b.runs(fuel, api.StopHalt, fmt.Sprintf("0 x=3 #%d%s", id, want))
			b.runs(1, api.StopEmpty, fmt.Sprintf("1 x=3 #%d: 0", id))
		}
	}
	b := ofText(t, "(rule r 0 () ((halt)))")
	b.runs(1, api.StopHalt, "0: 1").runs(1, api.StopEmpty)
	b = ofText(t, "(rule a 3 () ((print 1))) (rule b 2 () ((halt))) (rule c 1 () ((print 2))) (rule d 0 () ((print (/ 1 0)) (halt)))")
	b.runs(2, api.StopHalt, "0 > 1: 1", "1: 1").runs(2, api.StopEmpty, "2 > 2: 1", "3: 0, error 21")
	b = ofText(t, "(rule a 3 () ((print 1))) (rule b 2 () ((halt))) (rule c 1 () ((print 2)))")
	b.runs(1, api.StopFuel, "0 > 1: 1").runs(1, api.StopHalt, "1: 1").runs(1, api.StopEmpty, "2 > 2: 1")
}

// P21.1 (U2): what a rule asserts makes other rules hold, and the same one again; each is fired in its turn.
func TestMoreToDo(t *testing.T) {
	b := ofText(t, "(rule r 0 ((p (a ?x)) (if < ?x 3)) ((assert p (b ?x) (a (+ ?x 1))) (print ?x))) (rule s 0 ((p (a 3) (b ?y))) ((assert q (a ?y) (s 'done)))) (rule u -1 ((q (s ?s))) ((print ?s)))")
	b.comes("p 0 0")
	b.runs(100, api.StopEmpty, "0 x=0 #1 > 0: 2", "0 x=1 #2 > 1: 2", "0 x=2 #3 > 2: 2", "1 y=2 #4: 1", "2 s='done #5 > 'done: 1")
	b.has("1 p 0 0", "2 p 1 0", "3 p 2 1", "4 p 3 2", "5 q 2 'done")
	b.comes("p 1 1").runs(2, api.StopFuel, "0 x=1 #6 > 1: 2", "0 x=2 #7 > 2: 2").to("1 y=2 #8")
	// What does away with itself by what it makes known: once for each.
	b = ofText(t, "(rule r 0 ((not (e))) ((assert e))) (rule s 1 ((as ?f (e))) ((retract ?f)))")
	b.runs(4, api.StopFuel, "0: 1", "1 f=#1 #1: 1", "0: 1", "1 f=#2 #2: 1").has().to("0")
	// Folds that count what they make more of.
	b = ofText(t, "(rule r 0 ((let ?n count ?f () ((as ?f (p)))) (if < ?n 4)) ((assert p (a ?n) (b ?n))))")
	b.runs(100, api.StopEmpty, "0 n=0: 1", "0 n=1: 1", "0 n=2: 1", "0 n=3: 1").has("1 p 0 0", "2 p 1 1", "3 p 2 2", "4 p 3 3")
	b.goes(2).to("0 n=3").runs(100, api.StopEmpty, "0 n=3: 1")
}

// P21.1 (U2): what others stand on is retracted: they are not fired any more; nor is one, that retracts what it stands on itself, done again.
func TestRetracts(t *testing.T) {
	b := ofText(t, "(rule r 5 ((as ?f (p (a ?x))) (as ?g (p (a ?x))) (if != ?f ?g)) ((retract ?g) (print ?f))) (rule s 0 ((as ?f (p))) ((print ?f) (retract ?f) (print ?f)))")
	b.comes("p 1 0", "p 1 0", "p 1 0", "p 2 0", "p 2 0", "p 3 0")
	b.to("0 f=#4 g=#5 x=2 #4 #5", "0 f=#5 g=#4 x=2 #5 #4", "0 f=#2 g=#3 x=1 #2 #3", "0 f=#3 g=#2 x=1 #3 #2", "0 f=#1 g=#3 x=1 #1 #3", "0 f=#3 g=#1 x=1 #3 #1", "0 f=#1 g=#2 x=1 #1 #2", "0 f=#2 g=#1 x=1 #2 #1", "1 f=#6 #6", "1 f=#5 #5", "1 f=#4 #4", "1 f=#3 #3", "1 f=#2 #2", "1 f=#1 #1")
	b.runs(3, api.StopFuel, "0 f=#4 g=#5 x=2 #4 #5 > #4: 2", "0 f=#2 g=#3 x=1 #2 #3 > #2: 2", "0 f=#1 g=#2 x=1 #1 #2 > #1: 2")
	b.has("1 p 1 0", "4 p 2 0", "6 p 3 0").to("1 f=#6 #6", "1 f=#4 #4", "1 f=#1 #1")
	b.runs(2, api.StopFuel, "1 f=#6 #6 > #6 > #6: 3", "1 f=#4 #4 > #4 > #4: 3").has("1 p 1 0").to("1 f=#1 #1")
	b.runs(2, api.StopEmpty, "1 f=#1 #1 > #1 > #1: 3").has()
	// A rule that takes away what another one holds for, by an absence, and by a fold.
	b = ofText(t, "(rule r 9 ((as ?f (q (s 'go)))) ((assert e))) (rule s 0 ((not (e)) (q (a ?x))) ((print ?x))) (rule u 0 ((let ?n sum ?x () ((q (a ?x)))) (not (e))) ((print ?n)))")
	b.comes("q 1 'a", "q 2 'b").to("1 x=2 #2", "1 x=1 #1", "2 n=3").comes("q 5 'go")
	b.runs(9, api.StopEmpty, "0 f=#3 #3: 1").goes(4).runs(9, api.StopEmpty, "1 x=5 #3 > 5: 1", "1 x=2 #2 > 2: 1", "1 x=1 #1 > 1: 1", "2 n=8 > 8: 1")
}

// P21.1 (U2), P21.4: a rule ends when its facts are no more, or it holds no more; one that never ends stops for its fuel, whatever that is.
func TestEnds(t *testing.T) {
	b := ofText(t, "(rule r 0 ((as ?f (p (a ?x))) (if > ?x 0)) ((modify ?f (a (- ?x 1)))))").comes("p 3 7")
	b.runs(math.MaxInt, api.StopEmpty, "0 f=#1 x=3 #1: 1", "0 f=#2 x=2 #2: 1", "0 f=#3 x=1 #3: 1").has("4 p 0 7")
	b = ofText(t, "(rule r 0 ((as ?f (p))) ((retract ?f)))").comes("p 3 7", "p 1 1")
	b.runs(math.MaxInt, api.StopEmpty, "0 f=#2 #2: 1", "0 f=#1 #1: 1").has()
	for _, acts := range []string{"(modify ?f (a (+ ?x 1)))", "(modify ?f)", "(retract ?f) (assert p (a ?x) (b 0))", "(assert p (a ?x) (b 0)) (retract ?f)", "(modify ?f (b ?x)) (print ?x)"} {
		for _, fuel := range []int{1, 2, 3, 10, 60} {
			b := ofText(t, "(rule r 0 ((as ?f (p (a ?x)))) ("+acts+"))").comes("p 1 0")
			for range 3 {
				if l, stop := b.run(fuel); len(l) != fuel || stop != api.StopFuel || len(b.m.facts) != 1 {
					t.Fatalf("%s: got %s, %d", acts, brief(firedLines(l)), stop)
				}
			}
			if b.m.given != 3*fuel+1 {
				t.Errorf("%s: %d numbers are given", acts, b.m.given)
			}
		}
	}
	e := ofText(t, "(rule r 0 ((as ?f (p (a ?x)))) ((modify ?f (a (+ ?x 1)))))").comes("p 0 0").e
	l, stop := e.Run(20000)
	if got := factLines(e.Facts()); len(l) != 20000 || stop != api.StopFuel || firedLine(l[19999]) != "0 f=#20000 x=19999 #20000: 1" || !slices.Equal(got, []string{"20001 p 20000 0"}) {
		t.Errorf("got %d, %d, %s", len(l), stop, got)
	}
}

// P21.1 (U2): the order: by salience, then by the facts' numbers, the greatest first, then by the rules' places, then by the tuples.
func TestOrder(t *testing.T) {
	b := ofText(t, `
(rule a 0 ((p (a ?x)) (q (a ?y))) ()) (rule b 0 ((q (a ?y)) (p (a ?x))) ()) (rule c 1 ((q)) ()) (rule d -1 ((p) (p)) ())
(rule e 0 ((p)) ()) (rule f 0 () ()) (rule g 0 ((let ?n count ?f (?x) ((as ?f (p (a ?x)))))) ()) (rule h 1000 ((let ?m max ?f () ((as ?f (q))))) ()) (rule i -1000 ((p (a 1))) ())`)
	b.comes("p 1 0", "q 1 'a", "p 2 0")
	want := []string{"7 m=#2", "2 #2", "0 x=2 y=1 #3 #2", "1 x=2 y=1 #2 #3", "4 #3", "0 x=1 y=1 #1 #2", "1 x=1 y=1 #2 #1", "4 #1", "5", "6 n=1 x=1", "6 n=1 x=2", "3 #3 #3", "3 #1 #3", "3 #3 #1", "3 #1 #1", "8 #1"}
	b.to(want...)
	for _, one := range want {
		b.runs(1, map[bool]int{true: api.StopEmpty, false: api.StopFuel}[one == "8 #1"], one+": 0")
	}
}

// P21.1 (U2): ahead of each firing the first one of Agenda is the one that is fired.
func TestFirstIsFired(t *testing.T) {
	m, fired := newMaker(t, 50), 0
	for range 150 {
		b := of(t, m.right(t, 4))
		for range 20 {
			m.step(b)
			for range 3 {
				l := owned(b.e.Agenda())
				got, _ := b.run(1)
				if len(got) != min(len(l), 1) {
					t.Fatalf("got %s, to be done %s", firedLines(got), brief(todo(l)))
				}
				if len(l) > 0 && (!l[0].Add || got[0].Rule != l[0].Rule || !alike(got[0].T, l[0].T)) {
					t.Fatalf("got %s, to be done %s", firedLines(got), brief(todo(l)))
				}
				fired += len(got)
			}
		}
	}
	if fired < 1500 {
		t.Errorf("just %d", fired)
	}
}

// P21.1 (U2): what comes by an action, and stands ahead of what was to be done, is fired ahead of it: by its salience, by its facts, by its rule's place.
func TestComesAhead(t *testing.T) {
	b := ofText(t, "(rule a 0 ((p (a ?x))) ((assert q (a ?x) (s 'a)))) (rule b 5 ((q (a ?x) (s 'a))) ((print ?x) (assert e))) (rule c 0 ((e)) ())")
	b.comes("p 1 0", "p 2 0")
	b.runs(4, api.StopFuel, "0 x=2 #2: 1", "1 x=2 #3 > 2: 2", "2 #4: 0", "0 x=1 #1: 1").to("1 x=1 #5")
	b = ofText(t, "(rule a 0 ((p (a ?x))) ((assert e))) (rule b 0 ((e)) ())").comes("p 1 0", "p 2 0")
	b.runs(9, api.StopEmpty, "0 x=2 #2: 1", "1 #3: 0", "0 x=1 #1: 1", "1 #4: 0")
	b = ofText(t, "(rule a 0 ((not (e))) ((print 1))) (rule b 0 ((p (a 2))) ()) (rule c 0 ((as ?f (e))) ((retract ?f)))").comes("e", "p 2 0")
	b.runs(9, api.StopEmpty, "1 #2: 0", "2 f=#1 #1: 1", "0 > 1: 1")
	b = ofText(t, "(rule z 0 ((not (e)) (let ?n count ?f () ((as ?f (p))))) ()) (rule y 0 ((let ?n count ?f () ((as ?f (p))))) ((print ?n))) (rule x 9 ((as ?f (e))) ((retract ?f)))").comes("e").to("2 f=#1 #1", "1 n=0")
	b.runs(9, api.StopEmpty, "2 f=#1 #1: 1", "0 n=0: 0", "1 n=0 > 0: 1")
}

// P21.3 (once): what holds and was done is not fired again in the same run, nor in the next one, nor behind a fact that has nothing to do with it; it is behind it held no more between.
func TestOnce(t *testing.T) {
	b := ofText(t, "(rule a 0 ((p (a ?x))) ((print ?x))) (rule b 0 ((not (p (a 1)))) ()) (rule c 0 ((let ?n count ?f () ((as ?f (p))))) ()) (rule d 0 () ())")
	b.runs(9, api.StopEmpty, "1: 0", "2 n=0: 0", "3: 0").runs(9, api.StopEmpty)
	b.comes("p 1 5").runs(9, api.StopEmpty, "0 x=1 #1 > 1: 1", "2 n=1: 0").runs(9, api.StopEmpty)
	b.comes("e", "q 1 'a", "u 1 1").runs(9, api.StopEmpty).goes(2).turns(3, "", 5).runs(9, api.StopEmpty)
	if _, err := b.modify(1, puts("s=1")); err != api.ErrArg {
		t.Errorf("got %d", err)
	}
	b.runs(9, api.StopEmpty)
	// The fact is there again, by another number; what is told of it by a fold alone held no more between.
	b.turns(1, "", 6).to("0 x=1 #6", "2 n=1").runs(1, api.StopFuel, "0 x=1 #6 > 1: 1").turns(6, "b=6", 7).to("0 x=1 #7", "2 n=1").runs(9, api.StopEmpty, "0 x=1 #7 > 1: 1", "2 n=1: 0")
	b.turns(7, "a=2", 8).to("0 x=2 #8", "1", "2 n=1").turns(8, "a=1", 9).to("0 x=1 #9", "2 n=1")
	b.goes(9).to("1", "2 n=0").comes("p 1 5").to("0 x=1 #10", "2 n=1").runs(9, api.StopEmpty, "0 x=1 #10 > 1: 1", "2 n=1: 0")
	b.comes("p 3 3").goes(11).to("2 n=1").runs(9, api.StopEmpty, "2 n=1: 0")
	// Within one firing.
	b = ofText(t, "(rule a 0 ((not (e)) (let ?n count ?f () ((as ?f (p))))) ((assert e))) (rule b 1 ((as ?f (e)) (as ?g (p))) ((retract ?f) (modify ?g)))").comes("p 1 1")
	b.runs(5, api.StopFuel, "0 n=1: 1", "1 f=#2 g=#1 #2 #1: 2", "0 n=1: 1", "1 f=#4 g=#3 #4 #3: 2", "0 n=1: 1")
	b = ofText(t, "(rule a 0 ((as ?g (p)) (let ?n count ?f () ((as ?f (p))))) ((assert p (a 7) (b 7)) (print ?n)))").comes("p 1 1")
	b.runs(3, api.StopFuel, "0 g=#1 n=1 #1 > 1: 2", "0 g=#2 n=2 #2 > 2: 2", "0 g=#3 n=3 #3 > 3: 2")
}

// P21.1 (U1), P21.3: of a fact that is modified the old one goes first, then the new one comes: what is told of none of both, or of both at once, shows it.
func TestGoesThenComes(t *testing.T) {
	b := ofText(t, "(rule a 0 ((let ?m max ?x () ((p (a ?x))))) ((print ?m))) (rule b 0 ((p (a ?x)) (not (p (a 7)))) ()) (rule c -1 ((p) (e)) ()) (rule d 1 ((as ?f (p (a 5) (b 1))) (e)) ((modify ?f (b 0))))")
	b.comes("p 5 0", "p 1 0").runs(9, api.StopEmpty, "1 x=1 #2: 0", "1 x=5 #1: 0", "0 m=5 > 5: 1")
	b.turns(2, "", 3).to("1 x=1 #3").turns(1, "", 4).to("1 x=5 #4", "1 x=1 #3", "0 m=5")
	b.turns(4, "a=6", 5).to("1 x=6 #5", "1 x=1 #3", "0 m=6").turns(5, "a=5", 6).runs(9, api.StopEmpty, "1 x=5 #6: 0", "1 x=1 #3: 0", "0 m=5 > 5: 1")
	b.turns(3, "a=7", 7).to("0 m=7").turns(7, "", 8).to("0 m=7")
	b.turns(8, "a=1", 9).runs(9, api.StopEmpty, "1 x=1 #9: 0", "1 x=5 #6: 0", "0 m=5 > 5: 1")
	// By an action it is the same.
	b.turns(6, "b=1", 10).comes("e").runs(9, api.StopEmpty, "3 f=#10 #10 #11: 1", "1 x=5 #12: 0", "0 m=5 > 5: 1", "2 #12 #11: 0", "2 #9 #11: 0")
}

// P21.3: of random calls, a tuple is fired again just where it held no more between: told by Set behind each call; what comes and goes within one firing the model tells.
func TestNeverTwice(t *testing.T) {
	m, again, fired := newMaker(t, 51), 0, 0
	for range 500 {
		p := m.right(t, 3)
		b := of(t, p)
		done := map[string]bool{} // false: it was, and held no more since
		for range 25 {
			if m.Intn(2) == 0 {
				l, _ := b.run(1)
				for _, f := range l {
					s := fmt.Sprint(f.Rule, " ", line(f.T))
					was, is := done[s]
					if was {
						t.Fatalf("%s is fired twice", s)
					}
					if is {
						again++
					}
					done[s] = slices.ContainsFunc(b.m.done[f.Rule], func(d api.Tuple) bool { return alike(d, f.T) })
					fired++
				}
			} else if m.Intn(3) == 0 {
				b.retract(m.number(b.m))
			} else {
				b.assert(m.fact())
			}
			for s := range done {
				var rule int
				tuple := strings.SplitN(s, " ", 2)
				fmt.Sscan(tuple[0], &rule)
				if done[s] && !slices.Contains(lines(b.e.Set(rule)), tuple[1]) {
					done[s] = false
				}
			}
		}
	}
	if fired < 1000 || again < 20 {
		t.Errorf("just %d, %d again", fired, again)
	}
}
