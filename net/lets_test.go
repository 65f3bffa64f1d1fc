package net_test

import (
	"fmt"
	"testing"
)

// P19.1 (S1, S2): each fold of a pattern's values, as facts come and go; each result that changes is told as what was, and what is.
func TestFolds(t *testing.T) {
	for _, c := range []struct{ fold, none, one, two, three, less string }{
		{"count", "0", "1", "2", "3", "2"}, {"sum", "0", "5", "7", "12", "7"}, {"min", "none", "5", "2", "2", "2"}, {"max", "none", "5", "5", "5", "5"}, {"avg", "none", "5", "7/2", "4", "7/2"}, {"set", "{}", "{5}", "{2, 5}", "{2, 5}", "{2, 5}"},
	} {
		b := ofText(t, fmt.Sprintf("(let ?n %s ?x () ((p (a ?x))))", c.fold), fmt.Sprintf("(let ?n %s ?x (?y) ((p (a ?x) (b ?y))))", c.fold))
		step := func(call, was, is, key, keyWas, keyIs string) {
			t.Helper()
			var want []string
			if was != is {
				want = []string{"-0 n=" + was, "+0 n=" + is}
			}
			if keyWas != keyIs && keyWas != "" {
				want = append(want, "-1 n="+keyWas+" y="+key)
			}
			if keyWas != keyIs && keyIs != "" {
				want = append(want, "+1 n="+keyIs+" y="+key)
			}
			b.call(call, want...)
		}
		one := map[string]string{"count": "1", "set": "{2}"}[c.fold]
		if one == "" {
			one = "2"
		}
		b.tells(0, "n="+c.none).tells(1)
		step("+1 p 5 0", c.none, c.one, "0", "", c.one)
		step("+2 p 2 7", c.one, c.two, "7", "", one)
		step("+3 p 5 7", c.two, c.three, "7", one, c.two)
		step("-1", c.three, c.less, "0", c.one, "")
		step("-3", c.less, one, "7", c.two, one)
		step("-2", one, c.none, "7", one, "")
		b.empty()
	}
}

// P19.1 (S1): keys that are known outside ask for their value, others make it known, and some do both.
func TestKeys(t *testing.T) {
	b := ofText(t, "(q (a ?y)) (let ?n count ?x (?y) ((p (a ?x) (b ?y))))", "(let ?n count ?x (?y) ((p (a ?x) (b ?y))))", "(q (a ?y)) (let ?n count ?f (?x ?y) ((as ?f (p (a ?x) (b ?y)))))", "(let ?n sum ?x (?y ?x) ((p (a ?x) (b ?y))))", "(q (a ?y)) (let ?n sum ?y () ((p (b ?y))))")
	b.tells(0).tells(1).tells(2).tells(3)
	b.call("+1 q 1 'a", "+4 n=0 y=1 #1")
	b.call("+2 p 5 1", "+0 n=1 y=1 #1", "+1 n=1 y=1", "+2 n=1 x=5 y=1 #1", "+3 n=5 x=5 y=1", "-4 n=0 y=1 #1", "+4 n=1 y=1 #1")
	b.call("+3 p 5 2", "+1 n=1 y=2", "+3 n=5 x=5 y=2", "-4 n=1 y=1 #1", "+4 n=3 y=1 #1")
	b.call("+4 p 5 1", "-0 n=1 y=1 #1", "+0 n=2 y=1 #1", "-1 n=1 y=1", "+1 n=2 y=1", "-2 n=1 x=5 y=1 #1", "+2 n=2 x=5 y=1 #1", "-3 n=5 x=5 y=1", "+3 n=10 x=5 y=1", "-4 n=3 y=1 #1", "+4 n=4 y=1 #1")
	b.call("+5 q 2 'a", "+0 n=1 y=2 #5", "+2 n=1 x=5 y=2 #5", "+4 n=4 y=2 #5")
	b.call("-1", "-0 n=2 y=1 #1", "-2 n=2 x=5 y=1 #1", "-4 n=4 y=1 #1")
	b.tells(3, "n=5 x=5 y=2", "n=10 x=5 y=1")
	b.empty()
}

// P19.1 (S1): names inside that are known outside too, and are no keys, have nothing to do with each other.
func TestInsideAlone(t *testing.T) {
	b := ofText(t, "(p (a ?x)) (let ?n count ?x () ((q (a ?x))))", "(q (s ?x)) (let ?n sum ?x () ((p (a ?x))))", "(as ?x (e)) (let ?n max ?x () ((as ?x (p))))", "(p (a ?n)) (let ?x count ?y () ((p (a ?y) (b ?n)) (if = ?n 2)))", "(p (a ?x)) (let ?n count ?x () ((not (q (a ?y))) (p (b ?x))))")
	b.call("+1 p 7 2", "+0 n=0 x=7 #1", "+3 n=7 x=1 #1", "+4 n=1 x=7 #1")
	b.call("+2 q 3 'a", "-0 n=0 x=7 #1", "+0 n=1 x=7 #1", "+1 n=7 x='a #2", "-4 n=1 x=7 #1", "+4 n=0 x=7 #1")
	b.call("+3 e", "+2 n=#1 x=#3 #3")
	b.call("-1", "-0 n=1 x=7 #1", "-1 n=7 x='a #2", "+1 n=0 x='a #2", "-2 n=#1 x=#3 #3", "+2 n=none x=#3 #3", "-3 n=7 x=1 #1", "-4 n=0 x=7 #1")
	b.empty()
}

// P19.1 (S1): an Arg that is a key; min and max of facts' numbers and of texts, where 10 is more than 9, and "10" less than "9".
func TestArgs(t *testing.T) {
	b := ofText(t, "(let ?n max ?x (?x) ((p (a ?x))))", "(let ?n count ?x (?x) ((p (a ?x))))", "(let ?l min ?f () ((as ?f (p)))) (let ?m max ?f () ((as ?f (p))))", "(let ?l min ?t () ((w (t ?t)))) (let ?m max ?t () ((w (t ?t))))", "(let ?m max ?f (?x) ((as ?f (p (a ?x))))) (as ?g (p (b ?x))) (if = ?g ?m)")
	b.tells(2, "l=none m=none").tells(3, "l=none m=none")
	b.call("+9 p 4 0", "+0 n=4 x=4", "+1 n=1 x=4", "-2 l=none m=none", "+2 l=#9 m=#9")
	b.call("+10 p 4 0", "-1 n=1 x=4", "+1 n=2 x=4", "-2 l=#9 m=#9", "+2 l=#9 m=#10")
	b.call("+2 w 0 \"9\" 'a true", "-3 l=none m=none", "+3 l=\"9\" m=\"9\"")
	b.call("+3 w 0 \"10\" 'a true", "-3 l=\"9\" m=\"9\"", "+3 l=\"10\" m=\"9\"")
	b.call("+11 p 5 5", "+0 n=5 x=5", "+1 n=1 x=5", "-2 l=#9 m=#10", "+2 l=#9 m=#11", "+4 g=#11 m=#11 x=5 #11")
	b.call("-11", "-0 n=5 x=5", "-1 n=1 x=5", "-2 l=#9 m=#11", "+2 l=#9 m=#10", "-4 g=#11 m=#11 x=5 #11")
	b.call("-10", "-1 n=2 x=4", "+1 n=1 x=4", "-2 l=#9 m=#10", "+2 l=#9 m=#9")
	b.empty()
}

// P19.1 (S1): lets over more than a pattern: over an absence, a test, an As, two patterns.
func TestOver(t *testing.T) {
	b := ofText(t, "(let ?n count ?x () ((p (a ?x)) (not (q (a ?x)))))", "(let ?n sum ?x () ((p (a ?x)) (if > (* ?x ?x) 3)))", "(let ?n set ?f () ((as ?f (p)) (as ?g (e))))", "(let ?n count ?x (?y) ((p (a ?x) (b ?y)) (p (b ?x))))", "(let ?n count ?x () ((if < 2 1) (p (a ?x))))", "(let ?n count ?x () ((not (e)) (p (a ?x))))")
	b.call("+1 p 2 2", "-0 n=0", "+0 n=1", "-1 n=0", "+1 n=2", "+3 n=1 y=2", "-5 n=0", "+5 n=1")
	b.call("+2 p 1 2", "-0 n=1", "+0 n=2", "-3 n=1 y=2", "+3 n=2 y=2", "-5 n=1", "+5 n=2")
	b.call("+3 q 2 'a", "-0 n=2", "+0 n=1")
	b.call("+4 e", "-2 n={}", "+2 n={#1, #2}", "-5 n=2", "+5 n=0")
	b.call("+5 e")
	b.empty()
}

// P19.1 (S1): lets in one another, up to five deep, also where each one has keys.
func TestDeep(t *testing.T) {
	for deep := 1; deep <= 5; deep++ {
		b := ofText(t, within(deep, "(p (a ?x))"))
		b.call("+1 p 7 7", "-0 x=0", "+0 x=1")
		b.call("+2 p 7 8", "-0 x=1", "+0 x=2")
		b.call("-1", "-0 x=2", "+0 x=1")
		b.empty()
	}
	s := "(p (a ?x) (b ?y))"
	for deep := 1; deep <= 5; deep++ {
		s = fmt.Sprintf("(let ?x sum ?x (?y) (%s (not (q (a ?x)))))", s)
		if deep == 5 {
			s = "(u (a ?y))" + s
		}
	}
	b := ofText(t, s)
	b.call("+1 p 1 1")
	b.call("+2 p 2 1")
	b.call("+3 u 1 0", "+0 x=3 y=1 #3")
	b.call("+4 q 2 'a", "-0 x=3 y=1 #3", "+0 x=1 y=1 #3")
	b.call("+5 p 3 1", "-0 x=1 y=1 #3", "+0 x=4 y=1 #3")
	b.call("+6 q 4 'a", "-0 x=4 y=1 #3")
	b.call("-4", "+0 x=6 y=1 #3")
	b.call("-3", "-0 x=6 y=1 #3")
	b.empty()
}

// P19.1 (S1): a let's Var is asked by a pattern, an absence, a test, or another let behind it; what these hold for changes as it does.
func TestVarBehind(t *testing.T) {
	b := ofText(t, "(let ?n count ?x () ((p (a ?x)))) (q (a ?n))", "(let ?n count ?x () ((p (a ?x)))) (not (q (a ?n)))", "(let ?n count ?x () ((p (a ?x)))) (if > ?n 1)", "(let ?n count ?x () ((p (a ?x)))) (let ?m sum ?n (?n) ((q (a ?n))))", "(let ?n max ?f () ((as ?f (p)))) (as ?g (p)) (if = ?n ?g)", "(let ?n count ?x () ((p (a ?x)))) (let ?m count ?n () ((let ?n count ?x () ((p (a ?x))))))")
	b.tells(1, "n=0").tells(5, "m=1 n=0")
	b.call("+1 q 1 'a")
	b.call("+2 p 5 5", "+0 n=1 #1", "-1 n=0", "+3 m=1 n=1", "+4 g=#2 n=#2 #2", "-5 m=1 n=0", "+5 m=1 n=1")
	b.call("+3 p 5 5", "-0 n=1 #1", "+1 n=2", "+2 n=2", "-3 m=1 n=1", "-4 g=#2 n=#2 #2", "+4 g=#3 n=#3 #3", "-5 m=1 n=1", "+5 m=1 n=2")
	b.call("+4 q 2 'b", "+0 n=2 #4", "-1 n=2", "+3 m=2 n=2")
	b.call("-2", "-0 n=2 #4", "+0 n=1 #1", "-2 n=2", "-3 m=2 n=2", "+3 m=1 n=1", "-5 m=1 n=2", "+5 m=1 n=1")
	b.empty()
}

// P19.1 (S1): a value of kind None does not count in a sum and an average, but does elsewhere; a sum that has no room is None.
func TestNone(t *testing.T) {
	const inner = "((let ?x min ?y () ((p (a ?y)))))"
	b := ofText(t, "(let ?n count ?x () "+inner+")", "(let ?n sum ?x () "+inner+")", "(let ?n avg ?x () "+inner+")", "(let ?n max ?x () "+inner+")", "(let ?n set ?x () "+inner+")", "(let ?n sum ?x () ((p (a ?x))))")
	b.tells(0, "n=1").tells(1, "n=0").tells(2, "n=none").tells(3, "n=none").tells(4, "n={none}").tells(5, "n=0")
	long := nines(300)
	b.call("+1 p "+long+" 0", "-1 n=0", "+1 n="+long, "-2 n=none", "+2 n="+long, "-3 n=none", "+3 n="+long, "-4 n={none}", "+4 n={"+long+"}", "-5 n=0", "+5 n="+long)
	b.call("+2 p "+long+" 0", "-5 n="+long, "+5 n=none")
	b.call("+3 p " + long + " 1")
	b.call("-1")
	b.call("-2", "-5 n=none", "+5 n="+long)
	b.empty()
}
