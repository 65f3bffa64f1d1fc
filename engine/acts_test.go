package engine_test

import (
	"fmt"
	"slices"
	"strings"
	"testing"

	"tribunal/api"
)

// deeds is an action of each kind.
func deeds() []string {
	return []string{"(assert q (s 'new) (a ?x))", "(retract ?f)", "(modify ?f (b (+ ?y 1)))", "(print (+ ?x ?y))", "(halt)"}
}

// P21.1 (U2), P21.5: no action, each one alone, and each one behind and ahead of each two others, and of itself: what is done ahead of one that is wrong stays, and what stands behind one that is wrong, or halts, is not done.
func TestRowsOfActions(t *testing.T) {
	rows := [][]string{nil}
	for i := 0; len(rows[i]) < 3; i++ {
		for _, one := range deeds() {
			rows = append(rows, append(slices.Clone(rows[i]), one))
		}
	}
	if len(rows) != 1+5+25+125 {
		t.Fatalf("got %d", len(rows))
	}
	for _, row := range rows {
		b := ofText(t, "(rule r 0 ((as ?f (p (a ?x) (b ?y)))) ("+strings.Join(row, " ")+"))").comes("p 3 4")
		next, want, behind := 2, "0 f=#1 x=3 y=4 #1", ": "
		now := []string{"1 p 3 4"} // of the fact itself
		var new []string
		done, stop := 0, api.StopEmpty
		for _, one := range row {
			gone := len(now) == 0 || now[0] != "1 p 3 4"
			switch kind := strings.Fields(one)[0]; {
			case kind == "(assert":
				new = append(new, fmt.Sprintf("%d q 3 'new", next))
				next++
			case kind == "(print":
				want += " > 7"
			case kind == "(halt)":
				stop = api.StopHalt
			case gone:
				behind = fmt.Sprintf(": %d, error 3", done)
			case kind == "(retract":
				now = nil
			default:
				now = []string{fmt.Sprintf("%d p 3 5", next)}
				new = append(new, now...)
				next++
			}
			if behind != ": " {
				break
			}
			done++
			if stop == api.StopHalt {
				break
			}
		}
		if behind == ": " {
			behind = fmt.Sprintf(": %d", done)
		}
		if len(now) > 0 && now[0] != "1 p 3 4" && stop == api.StopEmpty {
			stop = api.StopFuel // the new fact is one that the rule holds for
		}
		b.runs(1, stop, want+behind)
		if len(now) == 0 || now[0] != "1 p 3 4" {
			now = nil
		}
		b.has(append(now, new...)...)
	}
}

// P21.1 (U2): twelve actions are done in order; what each one prints and makes known stands in that order too.
func TestManyActions(t *testing.T) {
	b := ofText(t, "(rule r 0 ((p (a ?x))) ((print ?x) (assert q (a 1) (s 'a)) (print (+ ?x 1)) (assert q (a 2) (s 'a)) (assert q (a 3) (s 'a)) (print (+ ?x 2)) (print (+ ?x 2)) (assert e) (assert q (a 4) (s 'a)) (print \"\") (print 'x) (assert e)))").comes("p 7 0")
	b.runs(1, api.StopEmpty, "0 x=7 #1 > 7 > 8 > 9 > 9 > \"\" > 'x: 12").has("1 p 7 0", "2 q 1 'a", "3 q 2 'a", "4 q 3 'a", "5 e", "6 q 4 'a", "7 e")
}

// P21.1 (U2): assert takes Fills in any order, each for its slot; they are expressions of the tuple's variables.
func TestAssertFills(t *testing.T) {
	fills := []string{"(n (* ?x 2))", "(t \"u\")", "(s ?s)", "(b false)"}
	for _, order := range [][]int{{0, 1, 2, 3}, {3, 2, 1, 0}, {1, 0, 3, 2}, {2, 3, 0, 1}, {3, 0, 1, 2}} {
		var l string
		for _, i := range order {
			l += fills[i]
		}
		b := ofText(t, "(rule r 0 ((q (a ?x) (s ?s))) ((assert w "+l+")))").comes("q 3/2 'red", "q -1 'blue")
		b.runs(9, api.StopEmpty, "0 s='blue x=-1 #2: 1", "0 s='red x=3/2 #1: 1").has("1 q 3/2 'red", "2 q -1 'blue", "3 w -2 \"u\" 'blue false", "4 w 3 \"u\" 'red false")
	}
	b := ofText(t, "(rule r 0 ((p (a ?x) (b ?y)) (if > ?x ?y)) ((assert p (b ?x) (a ?y)) (assert p (a (/ (+ ?x ?y) 2)) (b (- (* ?x ?x) (* ?y ?y))))))").comes("p 3 2", "p 1 2")
	b.runs(9, api.StopEmpty, "0 x=3 y=2 #1: 2").has("1 p 3 2", "2 p 1 2", "3 p 2 3", "4 p 5/2 5")
}

// none makes ?m known, a number that is none, and ?l, a fact's number that is none, as there is no w.
const none = "(let ?m min ?k () ((w (n ?k)))) (let ?l max ?h () ((as ?h (w)))) "

// P21.1 (U2), P21.5: expr's errors in what is filled: a division by 0, a number too long, another type; of two wrong ones that of the first one by the Fills' order, and ahead of facts' errors.
func TestWrongFills(t *testing.T) {
	wrong := map[string]int{"(/ ?x 0)": 21, "(* ?x ?x)": 2, "(+ ?x 1)": 2, "(+ ?m 1)": 31, "(- 1 ?m)": 31, "(/ 1 (- ?x ?x))": 21, "(/ ?m 0)": 31, "(+ (/ 1 0) ?m)": 21, "(+ ?m (/ 1 0))": 21}
	for first, err := range wrong {
		for _, act := range []string{"assert p", "modify ?f"} {
			for second, other := range wrong {
				for fills, want := range map[string]int{"(a " + first + ") (b " + second + ")": err, "(b " + first + ") (a " + second + ")": err, "(b " + second + ") (a " + first + ")": other, "(a 1) (b " + first + ")": err, "(b " + first + ") (a ?m)": err, "(a ?m) (b " + second + ")": other} {
					b := ofText(t, "(rule r 0 ((as ?f (p (a ?x))) (not (e)) "+none+") ((assert e) ("+act+" "+fills+") (print 1)))").comes("p " + nines(300) + " 0")
					b.runs(5, api.StopEmpty, fmt.Sprintf("0 f=#1 l=none m=none x=%s #1: 1, error %d", nines(300), want))
					b.has("1 p "+nines(300)+" 0", "2 e")
				}
			}
		}
	}
}

// P21.1 (U2), P21.5: a slot filled by a variable whose value is none: facts' error of its type; no number is lost by it, and nothing is known by half.
func TestFilledByNone(t *testing.T) {
	for _, act := range []string{"(assert p (a 1) (b ?m))", "(assert p (b ?m) (a 1))", "(assert p (a ?m) (b 1))", "(modify ?f (b ?m))", "(modify ?f (a 7) (b ?m))", "(modify ?f (b ?m) (a 7))"} {
		b := ofText(t, "(rule r 0 ((as ?f (p (a ?x))) "+none+") ((print ?x) "+act+" (print 2)))").comes("p 5 6")
		b.runs(5, api.StopEmpty, "0 f=#1 l=none m=none x=5 #1 > 5: 1, error 31").has("1 p 5 6")
		b.next()
	}
	b := ofText(t, "(rule r 0 ("+none+") ((assert p (a ?m) (b 1)))) (rule s 0 ((let ?t max ?u () ((w (t ?u))))) ((assert w (n 1) (t ?t) (s 'a) (b true)))) (rule u 0 ((let ?v max ?u () ((w (b ?u))))) ((assert w (n 1) (t \"\") (s 'a) (b ?v)))) (rule v 0 ((let ?w min ?u () ((w (s ?u))))) ((assert q (a 1) (s ?w))))")
	b.runs(5, api.StopEmpty, "0 l=none m=none: 0, error 31", "1 t=none: 0, error 31", "2 v=none: 0, error 31", "3 w=none: 0, error 31").has()
	b.next()
}

// P21.1 (U2), P21.5: one fact more than there may be is wrong, behind expr's errors and a wrong type; one that is modified is not one more, and one that is retracted ahead makes room.
func TestAssertsOneTooMany(t *testing.T) {
	for act, want := range map[string]string{
		"(assert e)": ": 0, error 2", "(assert p (a ?x) (b 1))": ": 0, error 2", "(assert p (a ?x) (b (/ 1 0)))": ": 0, error 21", "(assert p (b (+ ?m 1)) (a 1))": ": 0, error 31", "(assert p (a ?m) (b 1))": ": 0, error 31",
		"(print 1) (assert e) (print 2)": " > 1: 1, error 2", "(retract ?f) (assert e)": ": 2", "(modify ?f (a 1000))": ": 1", "(modify ?f (a ?m))": ": 0, error 31", "(retract ?f) (assert e) (assert e)": ": 2, error 2", "(modify ?f) (assert e)": ": 1, error 2",
	} {
		b := full(t, "(rule r 0 ((as ?f (u (a 7) (b ?x))) "+none+") ("+act+"))")
		b.run(0)
		l, stop := b.run(1)
		if got := firedLines(l); len(got) != 1 || got[0] != "0 f=#8 l=none m=none x=0 #8"+want || stop == api.StopHalt {
			t.Fatalf("%s: got %s, %d", act, got, stop)
		}
		if many := len(b.m.facts); many != 300 {
			t.Errorf("%s: %d facts", act, many)
		}
		b.failsFull()
	}
	b := full(t, "(rule r 0 ((u (a 1))) ((print 1) (assert e)))")
	b.goes(300)
	b.runs(9, api.StopEmpty, "0 #2 > 1: 2").failsFull()
}

// P21.1 (U2), P21.5: retract and modify of a variable whose fact is there, was retracted, or was modified, by an action ahead: what is not there is wrong, and what stands ahead stays done.
func TestGoneFacts(t *testing.T) {
	for act, want := range map[string]string{
		"(retract ?f) (retract ?g)": ": 2; ", "(retract ?f) (retract ?f)": ": 1, error 3; 2 p 2 0", "(retract ?f) (modify ?f (a 1))": ": 1, error 3; 2 p 2 0", "(retract ?f) (modify ?f)": ": 1, error 3; 2 p 2 0",
		"(modify ?f (b 1)) (modify ?f (b 1))": ": 1, error 3; 2 p 2 0, 3 p 1 1", "(modify ?f (b 1)) (retract ?f)": ": 1, error 3; 2 p 2 0, 3 p 1 1", "(modify ?f) (modify ?g) (print ?g)": " > #2: 3; 3 p 1 0, 4 p 2 0", "(modify ?f (b 5)) (retract ?g)": ": 2; 3 p 1 5",
		"(retract ?g) (print ?g) (modify ?f (a ?x) (b ?y))": " > #2: 3; 3 p 1 2", "(retract ?f) (modify ?f (a (/ 1 0)))": ": 1, error 21; 2 p 2 0", "(modify ?f) (modify ?f (a (+ 1 (/ 1 0))))": ": 1, error 21; 2 p 2 0, 3 p 1 0", "(retract ?f) (modify ?f (a ?m))": ": 1, error 3; 2 p 2 0",
		"(assert e) (retract ?f) (retract ?f) (assert e)": ": 2, error 3; 2 p 2 0, 3 e",
	} {
		now, left, _ := strings.Cut(want, "; ")
		b := ofText(t, "(rule r 0 ((as ?f (p (a ?x))) (as ?g (p (a ?y))) (if < ?x ?y) "+none+") ("+act+"))").comes("p 1 0", "p 2 0")
		l, _ := b.run(1)
		if got := firedLine(l[0]); got != "0 f=#1 g=#2 l=none m=none x=1 y=2 #1 #2"+now {
			t.Fatalf("%s: got %s, want %s", act, got, want)
		}
		if got := strings.Join(factLines(b.m.facts), ", "); got != left {
			t.Errorf("%s: got %s, want %s", act, got, want)
		}
	}
}

// P21.1 (U2): what another rule has retracted, or modified, is not what a rule is fired for; one that knows a fact's number by a fold is fired for the one that is there then.
func TestGoneByOthers(t *testing.T) {
	b := ofText(t, "(rule r 5 ((as ?f (p (a 1)))) ((retract ?f))) (rule s 0 ((as ?f (p (b ?y)))) ((modify ?f (b (+ ?y 1))) (print ?y))) (rule u 0 ((let ?g max ?f () ((as ?f (p))))) ((retract ?g)))")
	b.comes("p 1 1", "p 2 2", "p 1 3").to("0 f=#3 #3", "0 f=#1 #1", "1 f=#3 y=3 #3", "1 f=#2 y=2 #2", "1 f=#1 y=1 #1", "2 g=#3")
	b.runs(4, api.StopFuel, "0 f=#3 #3: 1", "0 f=#1 #1: 1", "1 f=#2 y=2 #2 > 2: 2", "1 f=#4 y=3 #4 > 3: 2").to("1 f=#5 y=4 #5", "2 g=#5")
	b = ofText(t, "(rule u 0 ((let ?g max ?f () ((as ?f (p))))) ((retract ?g) (print ?g))) (rule v -1 ((as ?f (e))) ((assert p (a 1) (b 1)) (modify ?f)))").comes("p 1 1", "p 2 2", "e")
	b.runs(6, api.StopFuel, "0 g=#2 > #2: 2", "0 g=#1 > #1: 2", "0 g=none: 0, error 3", "1 f=#3 #3: 2", "0 g=#4 > #4: 2", "0 g=none: 0, error 3").has("5 e")
}

// P21.1 (U2), P21.5: retract and modify of a variable whose value is none: there is no fact of such a number; a Fill that is wrong besides is told first.
func TestNoNumber(t *testing.T) {
	for act, want := range map[string]int{"(retract ?l)": 3, "(modify ?l)": 3, "(modify ?l (n 1))": 3, "(modify ?l (n ?m) (s 'a))": 3, "(modify ?l (n (/ 1 0)))": 21, "(modify ?l (s 'a) (n (+ ?m 1)))": 31} {
		b := ofText(t, "(rule r 0 ("+none+") ((print 1) "+act+" (print 2)))").comes("p 1 1")
		b.runs(5, api.StopEmpty, fmt.Sprintf("0 l=none m=none > 1: 1, error %d", want)).has("1 p 1 1")
		b.comes("w 1 \"\" 'a true").goes(2).runs(5, api.StopEmpty, fmt.Sprintf("0 l=none m=none > 1: 1, error %d", want)).has("1 p 1 1")
	}
	b := ofText(t, "(rule r 0 ("+none+") ((modify ?l (n (+ ?m 1))) (retract ?l)))").comes("w 1 \"\" 'a true", "w 2 \"\" 'b true").to("0 l=#2 m=1")
	b.runs(2, api.StopFuel, "0 l=#2 m=1: 1, error 3", "0 l=#3 m=1: 1, error 3").has("1 w 1 \"\" 'a true", "4 w 2 \"\" 'b true")
}

// P21.1 (U2): modify with no Fills, of a slot by its own variable plus one, and of all slots.
func TestModifies(t *testing.T) {
	b := ofText(t, "(rule r 0 ((as ?f (p (a ?x) (b ?y))) (if < ?x 3)) ((modify ?f (a (+ ?x 1)))))").comes("p 0 5", "p 2 6")
	b.runs(9, api.StopEmpty, "0 f=#2 x=2 y=6 #2: 1", "0 f=#1 x=0 y=5 #1: 1", "0 f=#4 x=1 y=5 #4: 1", "0 f=#5 x=2 y=5 #5: 1").has("3 p 3 6", "6 p 3 5")
	b = ofText(t, "(rule r 0 ((as ?f (p)) (not (e))) ((modify ?f) (assert e)))").comes("p 1 2", "q 1 'a").runs(9, api.StopEmpty, "0 f=#1 #1: 2").has("2 q 1 'a", "3 p 1 2", "4 e")
	b = ofText(t, "(rule r 0 ((as ?f (w (n ?n) (t ?t) (s 'go) (b ?b))) (q (s ?s))) ((modify ?f (b true) (s ?s) (n (- 0 ?n)) (t \"new\"))))").comes("w 4 \"old\" 'go false", "q 1 'red")
	b.runs(9, api.StopEmpty, "0 b=false f=#1 n=4 s='red t=\"old\" #1 #2: 1").has("2 q 1 'red", "3 w -4 \"new\" 'red true")
	b = ofText(t, "(rule r 0 ((as ?f (p (a ?x) (b ?y))) (if < ?x ?y)) ((modify ?f (a ?y) (b ?x))))").comes("p 1 2")
	b.runs(9, api.StopEmpty, "0 f=#1 x=1 y=2 #1: 1").has("2 p 2 1")
}

// P21.1 (U2): print of a number, a text, a symbol, true, a fact's number, a set, and none; each firing has its own Prints, and an error none behind it.
func TestPrints(t *testing.T) {
	b := ofText(t, "(rule r 0 ((as ?f (w (n ?n) (t ?t) (s ?s) (b ?b))) (let ?l set ?k () ((as ?k (w)))) (let ?m min ?j () ((p (a ?j)))) (let ?v set ?u () ((w (t ?u))))) ((print ?n) (print ?t) (print ?s) (print ?b) (print ?f) (print ?l) (print ?m) (print ?v) (print (+ ?n 1/2)) (print \"a b\") (print none) (print false)))")
	b.comes("w -3/2 \"x\" 'none true", "w "+nines(300)+" \"\" 'a false")
	binds := func(n int, rest string) string {
		l := strings.Fields(rest)
		return fmt.Sprintf("0 b=%s f=#%d l={#1, #2} m=none n=%s s=%s t=%s v={\"\", \"x\"} #%d", l[0], n, l[1], l[2], l[3], n)
	}
	b.runs(1, api.StopFuel, binds(2, "false "+nines(300)+" 'a \"\"")+" > "+nines(300)+" > \"\" > 'a > false > #2 > {#1, #2} > none > {\"\", \"x\"}: 8, error 2")
	b.runs(1, api.StopEmpty, binds(1, "true -3/2 'none \"x\"")+" > -3/2 > \"x\" > 'none > true > #1 > {#1, #2} > none > {\"\", \"x\"} > -1 > \"a b\" > none > false: 12")
	b = ofText(t, "(rule r 0 ((p (a ?x))) ((print ?x) (print (/ 1 ?x)) (print 7)))").comes("p 1 0", "p 0 0", "p -2 0")
	b.runs(3, api.StopEmpty, "0 x=-2 #3 > -2 > -1/2 > 7: 3", "0 x=0 #2 > 0: 1, error 21", "0 x=1 #1 > 1 > 1 > 7: 3")
	for act, want := range map[string]string{"(print (/ 1 0))": ": 0, error 21", "(print (+ ?m 1))": ": 0, error 31", "(print (* (+ ?x 1) 2))": ": 0, error 2", "(print ?m)": " > none: 1", "(print (- ?x ?x))": " > 0: 1", "(print (/ ?x ?x)) (print (- 0 ?x))": " > 1: 1, error 2"} {
		b := ofText(t, "(rule r 0 ((p (a ?x)) "+none+") ("+act+"))").comes("p " + nines(300) + " 0")
		b.runs(3, api.StopEmpty, "0 l=none m=none x="+nines(300)+" #1"+want)
	}
}

// P21.1 (U2), P21.5: what is wrong at the first action, in the middle, and at the last one: what was done ahead stays, what stands behind is not done, and the run goes on with what is next.
func TestWrongAt(t *testing.T) {
	wrong := []string{"(print (/ 1 0))", "(assert p (a 1) (b (/ 1 0)))", "(modify ?f (a (/ 1 0)))"}
	for _, bad := range wrong {
		for at := range 5 {
			l := slices.Insert([]string{"(print 1)", "(assert e)", "(print 2)", "(assert q (a ?x) (s 'a))"}, at, bad)
			b := ofText(t, "(rule r 0 ((as ?f (p (a ?x)))) ("+strings.Join(l, " ")+")) (rule s -1 ((p (a ?x))) ((print ?x)))").comes("p 5 0", "p 6 0")
			var prints []string
			left := []string{"1 p 5 0", "2 p 6 0"}
			for i, id := range []int{3, 3 + at/2} {
				all := []string{fmt.Sprintf("%d e", id), fmt.Sprintf("%d q %d 'a", id+1, 6-i)}
				left = append(left, all[:at/2]...)
			}
			for i := range (at + 1) / 2 {
				prints = append(prints, fmt.Sprintf(" > %d", i+1))
			}
			behind := fmt.Sprintf("%s: %d, error 21", strings.Join(prints, ""), at)
			b.runs(9, api.StopEmpty, "0 f=#2 x=6 #2"+behind, "0 f=#1 x=5 #1"+behind, "1 x=6 #2 > 6: 1", "1 x=5 #1 > 5: 1").has(left...)
			b.next()
		}
	}
}

// P21.1 (U2): Fired has its tuple as it was when it was fired, though its facts are gone, and others are known.
func TestTupleAsItWas(t *testing.T) {
	b := ofText(t, "(rule r 0 ((as ?f (p (a ?x))) (as ?g (p (a ?y))) (if < ?x ?y) (let ?n count ?h () ((as ?h (p))))) ((retract ?f) (modify ?g (a 0) (b 9)) (assert p (a 7) (b 7)) (print ?n) (halt)))").comes("p 1 0", "p 2 0")
	l, stop := b.run(9)
	if got := firedLines(l); stop != api.StopHalt || !slices.Equal(got, []string{"0 f=#1 g=#2 n=2 x=1 y=2 #1 #2 > 2: 5"}) {
		t.Errorf("got %s, %d", got, stop)
	}
	b.has("3 p 0 9", "4 p 7 7").to("0 f=#3 g=#4 n=2 x=0 y=7 #3 #4")
}
