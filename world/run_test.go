package world_test

import (
	"fmt"
	"testing"

	"tribunal/api"
)

// P22.1 (V2): a run of nothing to do tells that alone, whatever its fuel: of no rules, of rules that hold for nothing, and of those of which all was done.
func TestRunOfNothing(t *testing.T) {
	for _, rules := range []string{"", "(rule r 0 ((p)) ((halt)))", "(rule r 0 ((if < 2 1)) ((print 1)))", "(rule r 0 () ()) (rule s 0 ((not (p))) ())"} {
		b := ofRules(t, rules)
		b.do("( run 2 )")
		for range 2 {
			for _, fuel := range []string{"0", "1", "2", "9", "100000000", "999999999"} {
				b.tells("( run "+fuel+" )", "empty")
			}
		}
	}
}

// P22.1 (V2): of fuel 0 nothing is fired; of more, as many as that, each told by a line, the first one first; then why it stopped.
func TestRunOfFuel(t *testing.T) {
	all := []string{"fired r x=9 #5 > 9 ", "fired r x=7 #4 > 7 ", "fired r x=5 #3 > 5 ", "fired r x=3 #2 > 3 ", "fired r x=1 #1 > 1 "}
	begin := func() *both {
		return ofRules(t, "(rule r 0 ((p (a ?x))) ((print ?x)))").does("( assert p 1 0 )", "( assert p 3 0 )", "( assert p 5 0 )", "( assert p 7 0 )", "( assert p 9 0 )")
	}
	for fuel := range 7 {
		many, why := min(fuel, 5), "fuel"
		if fuel >= 5 {
			why = "empty"
		}
		b := begin()
		b.tells(fmt.Sprintf("( run %d )", fuel), append(append([]string(nil), all[:many]...), why)...)
		b.tells("( run 999999999 )", append(append([]string(nil), all[many:]...), "empty")...).tells("( run 1 )", "empty")
	}
	b := begin()
	for _, line := range all[:4] {
		b.tells("( run 0 )", "fuel").tells("( run 1 )", line, "fuel")
	}
	b.tells("( run 0 )", "fuel").tells("( run 1 )", all[4], "empty").tells("( run 0 )", "empty")
}

// P22.1 (V2): a rule that halts: it is told, and the run stops for that, also with no fuel left, or nothing left to do; the next run goes on.
func TestRunHalts(t *testing.T) {
	b := of(t, "(rule a 3 () ((print 1) (halt) (print 2))) (rule b 2 () ((print 3))) (rule c 1 () ((halt))) (rule d 0 () ((print (/ 1 0)) (halt)))")
	b.tells("( run 1 )", "fired a > 1 ", "halt").tells("( run 9 )", "fired b > 3 ", "fired c ", "halt").tells("( run 9 )", "fired d error 21 ", "empty").tells("( run 9 )", "empty")
	of(t, "(rule r 0 () ((halt)))").tells("( run 0 )", "fuel").tells("( run 1 )", "fired r ", "halt").tells("( run 1 )", "empty")
	of(t, "(rule a 1 () ()) (rule b 0 () ((halt)))").tells("( run 1 )", "fired a ", "fuel").tells("( run 1 )", "fired b ", "halt")
}

// P22.1 (V2): each that was fired is told with its own rule's name, whatever its place and salience, and with its tuple: of variables and facts, of these alone, of those alone, and of none; the blanks stand as they do in its text.
func TestFiredLines(t *testing.T) {
	b := ofRules(t, "(rule z 1 ((as ?f (w (n ?n) (t ?t) (s ?s) (b ?b))) (e)) ()) (rule fired 2 ((e)) ()) (rule a0 3 ((let ?n count ?x () ((p (a ?x)))) (let ?m min ?x () ((p (a ?x)))) (let ?l set ?x () ((p (a ?x))))) ()) (rule run 4 () ()) (rule y 0 ((p (a ?x)) (p (a ?y)) (if < ?x ?y)) ()) (rule "+times("r", 24)+" -1 ((not (q)) (if < 1 2)) ())")
	b.does("( assert p 1 0 )", "( assert p 1/2 0 )", "( assert e )", `( assert w -7 "a > b #1 " 'fired false )`)
	b.tells("( run 9 )", "fired run ", "fired a0 l={1/2, 1} m=1/2 n=2 ", "fired fired #3 ", `fired z b=false f=#4 n=-7 s='fired t="a > b #1 " #4 #3 `, "fired y x=1/2 y=1 #2 #1 ", "fired "+times("r", 24)+" ", "empty")
	ofRules(t, "(rule r 0 ((as ?f (e)) (as ?g (e)) (e)) ())").does("( assert e )", "( assert e )").tells("( run 99 )", "fired r f=#2 g=#2 #2 #2 #2 ", "fired r f=#1 g=#2 #1 #2 #2 ", "fired r f=#2 g=#1 #2 #1 #2 ", "fired r f=#2 g=#2 #2 #2 #1 ", "fired r f=#1 g=#1 #1 #1 #2 ", "fired r f=#1 g=#2 #1 #2 #1 ", "fired r f=#2 g=#1 #2 #1 #1 ", "fired r f=#1 g=#1 #1 #1 #1 ", "empty")
}

// P22.1 (V2): what is printed, each behind a sign and a blank, with a blank behind it: numbers, texts, symbols, true and false, facts' numbers, sets, also of nothing, and none.
func TestPrints(t *testing.T) {
	b := ofRules(t, "(rule r 0 ((as ?f (w (n ?n) (t ?t) (s ?s) (b ?b))) (let ?l set ?k () ((as ?k (w)))) (let ?m min ?j () ((p (a ?j)))) (let ?v set ?u () ((w (t ?u)))) (let ?o set ?j () ((p (a ?j)))) (let ?g max ?i () ((as ?i (e))))) ((print ?n) (print ?t) (print ?s) (print ?b) (print ?f) (print ?l) (print ?m) (print ?v) (print ?o) (print ?g) (print (- ?n 1/2)) (print \"\")))")
	b.does(`( assert w -3/2 "x > y" 'none true )`, `( assert w 5 "" 'a false )`, "( assert e )")
	b.tells("( run 1 )", `fired r b=false f=#2 g=#3 l={#1, #2} m=none n=5 o={} s='a t="" v={"", "x > y"} #2 > 5 > "" > 'a > false > #2 > {#1, #2} > none > {"", "x > y"} > {} > #3 > 9/2 > "" `, "fuel")
	b.tells("( run 1 )", `fired r b=true f=#1 g=#3 l={#1, #2} m=none n=-3/2 o={} s='none t="x > y" v={"", "x > y"} #1 > -3/2 > "x > y" > 'none > true > #1 > {#1, #2} > none > {"", "x > y"} > {} > #3 > -2 > "" `, "empty")
	of(t, `(rule r 0 () ((print 0) (print "a b  c") (print 'red) (print true) (print false) (print none) (print (* 1/3 3)) (print "> error 21 ")))`).tells("( run 1 )", `fired r > 0 > "a b  c" > 'red > true > false > none > 1 > "> error 21 " `, "empty")
	of(t, "(rule r 0 () ((print "+nines(300)+") (print (+ 1 "+nines(300)+")) (print 1)))").tells("( run 1 )", "fired r > "+nines(300)+" error 2 ", "empty")
	// A set that has no room is none.
	b = ofRules(t, "(rule r 0 ((let ?l set ?x () ((w (t ?x))))) ((print ?l)))")
	members := ""
	for i := range 40 {
		text := fmt.Sprintf("%0100d", i)
		b.does(`( assert w 1 "` + text + `" 'a true )`)
		if members += `, "` + text + `"`; i == 37 {
			b.tells("( run 1 )", "fired r l={"+members[2:]+"} > {"+members[2:]+"} ", "empty")
		}
	}
	b.tells("( run 1 )", "fired r l=none > none ", "empty")
}

// P22.1 (V2): what is wrong is told behind all prints ahead of it, by its decimals, with a blank: a division by 0, a number that is too long, another type, a fact that there is none of, one too many; the rest is not done, and the run goes on.
func TestFiredErrors(t *testing.T) {
	const none = "(let ?m min ?k () ((w (n ?k)))) (let ?l max ?h () ((as ?h (w)))) "
	for act, want := range map[string]string{
		"(print (/ 1 0))": "error 21 ", "(print 1) (print (/ 1 0)) (print 2)": "> 1 error 21 ", "(print 1) (print 'a) (print (/ ?x (- ?x ?x))) (halt)": "> 1 > 'a error 21 ", "(assert p (a (/ 1 0)) (b 1))": "error 21 ", "(print 7) (modify ?f (a (/ 1 0)))": "> 7 error 21 ",
		"(print (+ ?m 1))": "error 31 ", "(print ?m) (print (- 1 ?m))": "> none error 31 ", "(assert p (a ?m) (b 1)) (print 1)": "error 31 ", "(print 1) (print 2) (modify ?f (b ?m))": "> 1 > 2 error 31 ", "(print (* " + nines(300) + " 2))": "error 2 ",
		"(retract ?f) (retract ?f) (print 1)": "error 3 ", "(print 3) (retract ?l)": "> 3 error 3 ", "(modify ?l)": "error 3 ", "(retract ?f) (print ?f) (modify ?f)": "> #1 error 3 ", "(print 1) (print 2)": "> 1 > 2 ", "(retract ?f)": "", "": "",
	} {
		b := ofRules(t, "(rule r 1 ((as ?f (p (a ?x))) (if < ?x 9) "+none+") ("+act+")) (rule s 0 () ((print 5)))").does("( assert p 4 0 )")
		b.tells("( run 9 )", "fired r f=#1 l=none m=none x=4 #1 "+want, "fired s > 5 ", "empty")
	}
	b := ofRules(t, "(rule r 0 ((p (a ?x) (b ?y))) ((print ?x) (print (/ ?x ?y)) (print ?y)))").does("( assert p 1 0 )", "( assert p 0 2 )", "( assert p 3 -2 )")
	b.tells("( run 3 )", "fired r x=3 y=-2 #3 > 3 > -3/2 > -2 ", "fired r x=0 y=2 #2 > 0 > 0 > 2 ", "fired r x=1 y=0 #1 > 1 error 21 ", "empty")
	b = ofRules(t, "(rule r 0 ((as ?f (q (a ?x)))) ((print 1) (assert e) (print 2) (assert e)))")
	for range 298 {
		b.does("( assert p 1 1 )")
	}
	b.does("( assert q 1 'a )").tells("( run 9 )", "fired r f=#299 x=1 #299 > 1 > 2 error 2 ", "empty").fails(api.ErrTooMany, "( assert e )")
}

// P22.1 (V2): actions do what lines do: what is asserted, retracted and modified is told by facts, and by what is fired for it.
func TestRunChangesFacts(t *testing.T) {
	b := ofRules(t, "(rule up 1 ((as ?f (p (a ?x) (b ?y))) (if < ?x ?y)) ((print ?x) (modify ?f (a (+ ?x 1))))) (rule full 0 ((as ?f (p (a ?x) (b ?x)))) ((retract ?f) (assert q (s 'full) (a ?x)))) (rule stop -1 ((q (a ?x))) ((halt)))")
	b.does("( assert p 0 2 )", "( assert p 5 1 )").tells("( run 1 )", "fired up f=#1 x=0 y=2 #1 > 0 ", "fuel").tells("( facts )", "#2 p 5 1", "#3 p 1 2", "end")
	b.tells("( run 9 )", "fired up f=#3 x=1 y=2 #3 > 1 ", "fired full f=#4 x=2 #4 ", "fired stop x=2 #5 ", "halt").tells("( facts )", "#2 p 5 1", "#5 q 2 'full", "end").tells("( assert e )", "fact 6")
	b.tells("( modify 2 ( a 0 ) )", "fact 7").tells("( run 9 )", "fired up f=#7 x=0 y=1 #7 > 0 ", "fired full f=#8 x=1 #8 ", "fired stop x=1 #9 ", "halt").tells("( run 9 )", "empty").tells("( facts )", "#5 q 2 'full", "#6 e", "#9 q 1 'full", "end")
}
