package net_test

import (
	"fmt"
	"strings"
	"testing"

	"tribunal/api"
	"tribunal/check"
)

// forms is conditions of each kind, in many forms, some of which ask for what others make known.
func forms() []string {
	return []string{
		"(p)", "(p (a 1))", "(p (a ?x))", "(p (b ?x) (a ?y))", "(p (a ?x) (b ?x))", "(as ?f (p))", "(as ?g (p (a ?x)))", "(q (a ?x) (s ?s))", "(q (s 'a))", "(e)", "(as ?h (u (b ?x)))",
		"(not (p))", "(not (p (a 1)))", "(not (p (a ?x)))", "(not (p (a ?x) (b ?x)))", "(not (p (b ?y)))", "(not (e))", "(not (q (a ?x) (s ?s)))", "(not (u (a ?n) (b ?x)))",
		"(if < 1 2)", "(if > 1 2)", "(if = ?x ?x)", "(if < ?x 2)", "(if != ?y ?x)", "(if >= ?n 1)", "(if = ?f ?g)", "(if <= (/ 1 ?x) (- ?y 1))",
		"(let ?n count ?x () ((p (a ?x))))", "(let ?m sum ?x (?y) ((p (a ?x) (b ?y))))", "(let ?l min ?f (?x) ((as ?f (p (a ?x)))))", "(let ?k set ?s (?x) ((q (a ?x) (s ?s))))", "(let ?v max ?y () ((p (b ?y)) (not (q (a ?y)))))", "(let ?w avg ?x (?x) ((u (a ?x)) (if < ?x 2)))", "(let ?o count ?n (?y ?x) ((p (a ?x) (b ?y)) (let ?n sum ?y (?x) ((q (a ?x)) (p (a ?y))))))",
	}
}

// may tells whether conditions may be.
func may(t testing.TB, text string) bool {
	t.Helper()
	err, _ := check.Check(program(t, text))
	return err == api.OK
}

// P19.1 to P19.4: each form alone, and behind and ahead of each other one, also behind a pattern that makes known what it asks for, held against another telling behind each of some calls.
func TestPairsOfForms(t *testing.T) {
	m, many, alone := newMaker(t, 2), 0, 0
	for _, first := range forms() {
		for _, second := range append(forms(), "") {
			var l []string
			for _, ahead := range []string{"", "(u (a ?x) (b ?y))", "(as ?f (p (a ?x))) (as ?g (q (a ?y)))"} {
				if text := ahead + first + second; may(t, text) {
					l = append(l, text)
				}
			}
			if second == "" && len(l) > 0 {
				alone++
			}
			b := ofText(t, l...)
			for range 20 {
				m.step(b)
			}
			for _, call := range []string{"+31 p 1 1", "+32 q 1 'a", "+33 u 1 2", "+34 p 2 1", "+35 e", "-31", "-35", "-33", "-32", "-34"} {
				b.take(call)
			}
			b.empty()
			many += len(l)
		}
	}
	if many < 2000 || alone < len(forms())-1 {
		t.Errorf("just %d, %d alone", many, alone)
	}
}

// P19.1 (S1, S2): a pattern holds for each fact of its template whose values are those asked for, or anything; one variable at two slots asks for one value; As is the fact's number.
func TestPatterns(t *testing.T) {
	b := ofText(t, "(p)", "(p (a ?x))", "(p (b ?x) (a ?y))", "(p (a 1))", "(p (a 1) (b 2))", "(p (a ?x) (b ?x))", "(as ?f (p))", "(as ?f (p (b ?x) (a 2)))", "(w (t \"1\") (s ?s) (b true))", "(as ?f (e))")
	b.call("+7 p 1 2", "+0 #7", "+1 x=1 #7", "+2 x=2 y=1 #7", "+3 #7", "+4 #7", "+6 f=#7 #7")
	b.call("+5 p 2 2", "+0 #5", "+1 x=2 #5", "+2 x=2 y=2 #5", "+5 x=2 #5", "+6 f=#5 #5", "+7 f=#5 x=2 #5")
	b.call("+6 u 1 2")
	b.call("+8 w 1 \"1\" 'a true", "+8 s='a #8")
	b.call("+9 w 1 \"1\" 'true false")
	b.call("+10 w 1 \"a\" 'a true")
	b.call("+11 e", "+9 f=#11 #11")
	b.tells(0, "#5", "#7").tells(1, "x=2 #5", "x=1 #7").tells(2, "x=2 y=2 #5", "x=2 y=1 #7").tells(5, "x=2 #5").tells(8, "s='a #8")
	b.call("-7", "-0 #7", "-1 x=1 #7", "-2 x=2 y=1 #7", "-3 #7", "-4 #7", "-6 f=#7 #7")
	b.call("-11", "-9 f=#11 #11")
	b.empty()
}

// P19.1 (S1): the facts' numbers stand in the conditions' order, whichever is greater; the variables by their names.
func TestFactsInOrder(t *testing.T) {
	b := ofText(t, "(p (a ?z)) (u (a ?b))", "(u (a ?b)) (p (a ?z))", "(p) (u) (p)", "(u) (not (e)) (if < 1 2) (p) (let ?n count ?f () ((as ?f (p)))) (u)")
	b.call("+9 p 1 1")
	b.call("+2 u 3 1", "+0 b=3 z=1 #9 #2", "+1 b=3 z=1 #2 #9", "+2 #9 #2 #9", "+3 n=1 #2 #9 #2")
	b.call("+5 u 4 1", "+0 b=4 z=1 #9 #5", "+1 b=4 z=1 #5 #9", "+2 #9 #5 #9", "+3 n=1 #2 #9 #5", "+3 n=1 #5 #9 #2", "+3 n=1 #5 #9 #5")
	b.tells(0, "b=3 z=1 #9 #2", "b=4 z=1 #9 #5").tells(1, "b=3 z=1 #2 #9", "b=4 z=1 #5 #9")
	b.empty()
}

// P19.1 (S1, S2): two patterns of one template: one fact may be both; of two facts each order.
func TestOneTemplateTwice(t *testing.T) {
	b := ofText(t, "(p) (p)", "(p (a ?x)) (p (b ?x))", "(as ?f (p)) (as ?g (p)) (if != ?f ?g)", "(p (a ?x)) (p (a ?x)) (p (a ?x))")
	b.call("+5 p 1 1", "+0 #5 #5", "+1 x=1 #5 #5", "+3 x=1 #5 #5 #5")
	b.call("+3 p 1 2", "+0 #3 #3", "+0 #3 #5", "+0 #5 #3", "+1 x=1 #3 #5", "+2 f=#3 g=#5 #3 #5", "+2 f=#5 g=#3 #5 #3",
		"+3 x=1 #3 #3 #3", "+3 x=1 #3 #3 #5", "+3 x=1 #3 #5 #3", "+3 x=1 #3 #5 #5", "+3 x=1 #5 #3 #3", "+3 x=1 #5 #3 #5", "+3 x=1 #5 #5 #3")
	b.call("+4 p 2 1", "+0 #3 #4", "+0 #4 #3", "+0 #4 #4", "+0 #4 #5", "+0 #5 #4", "+1 x=1 #3 #4", "+1 x=2 #4 #3", "+1 x=1 #5 #4",
		"+2 f=#3 g=#4 #3 #4", "+2 f=#4 g=#3 #4 #3", "+2 f=#4 g=#5 #4 #5", "+2 f=#5 g=#4 #5 #4", "+3 x=2 #4 #4 #4")
	b.call("-5", "-0 #3 #5", "-0 #4 #5", "-0 #5 #3", "-0 #5 #4", "-0 #5 #5", "-1 x=1 #3 #5", "-1 x=1 #5 #4", "-1 x=1 #5 #5", "-2 f=#3 g=#5 #3 #5", "-2 f=#4 g=#5 #4 #5", "-2 f=#5 g=#3 #5 #3", "-2 f=#5 g=#4 #5 #4",
		"-3 x=1 #3 #3 #5", "-3 x=1 #3 #5 #3", "-3 x=1 #3 #5 #5", "-3 x=1 #5 #3 #3", "-3 x=1 #5 #3 #5", "-3 x=1 #5 #5 #3", "-3 x=1 #5 #5 #5")
	b.tells(0, "#3 #3", "#3 #4", "#4 #3", "#4 #4").tells(1, "x=1 #3 #4", "x=2 #4 #3")
	b.empty()
}

// P19.1 (S1, S2): a variable that is known ahead asks for its value, by a pattern, a fact's number by none.
func TestKnownAhead(t *testing.T) {
	b := ofText(t, "(q (a ?x) (s ?s)) (w (s ?s) (n ?x))", "(q (s ?s)) (w (s ?s))", "(q (s ?x)) (w (n ?s) (s ?x))")
	b.comes("+1 q 1 'a", "+2 q 2 'b")
	b.call("+3 w 1 \"\" 'a true", "+0 s='a x=1 #1 #3", "+1 s='a #1 #3", "+2 s=1 x='a #1 #3")
	b.call("+4 w 1 \"\" 'b true", "+1 s='b #2 #4", "+2 s=1 x='b #2 #4")
	b.call("+5 w 3 \"\" 'c true")
	b.call("+6 q 7 'c", "+1 s='c #6 #5", "+2 s=3 x='c #6 #5")
	b.empty()
}

// P19.1 (S1, S2): an absence holds, unless a fact agrees: of what is known it asks for that value, of what is not for any, twice for one that stands twice; of a template without facts it holds. What stands in it is not known behind it.
func TestAbsences(t *testing.T) {
	b := ofText(t, "(q (a ?x)) (not (p (a ?x)))", "(not (p (a ?x)))", "(not (p (a ?x) (b ?x)))", "(q (a ?x)) (not (p (a ?x) (b ?x)))", "(not (e))", "(not (p (a ?x))) (q (a ?x))", "(not (p (a 2))) (not (p (b 2)))", "(q (a ?x)) (not (p (a ?y) (b ?x)))")
	b.tells(0).tells(1, "").tells(2, "").tells(4, "").tells(6, "")
	b.call("+1 q 1 'a", "+0 x=1 #1", "+3 x=1 #1", "+5 x=1 #1", "+7 x=1 #1")
	b.call("+2 p 1 2", "-0 x=1 #1", "-1", "-5 x=1 #1", "-6")
	b.call("+3 q 2 'a", "+0 x=2 #3", "+3 x=2 #3")
	b.call("+4 p 1 1", "-2", "-3 x=1 #1", "-7 x=1 #1")
	b.call("+5 p 2 2", "-0 x=2 #3", "-3 x=2 #3")
	b.call("-4", "+3 x=1 #1", "+7 x=1 #1")
	b.call("-2", "+0 x=1 #1")
	b.call("-5", "+0 x=2 #3", "+1", "+2", "+3 x=2 #3", "+5 x=1 #1", "+5 x=2 #3", "+6", "+7 x=2 #3")
	b.call("+6 e", "-4")
	b.call("+7 e")
	b.call("-6")
	b.call("-7", "+4")
	b.empty()
}

// P19.1 (S1): each op, of numbers on either side of each other.
func TestOps(t *testing.T) {
	ops := []string{"<", "<=", "=", "!=", ">=", ">"}
	var l []string
	for _, op := range ops {
		l = append(l, fmt.Sprintf("(p (a ?x) (b ?y)) (if %s ?x ?y)", op))
	}
	for _, op := range ops {
		l = append(l, fmt.Sprintf("(p (a ?x) (b ?y)) (if %s (* 2 ?x) (+ ?y (/ ?x 1)))", op))
	}
	b := ofText(t, l...)
	for call, want := range map[string]string{"+1 p 1 2": "<  <= !=", "+2 p 2 2": "<= =  >=", "+3 p 10 9": "!= >= > ", "+4 p -1/2 -1/3": "<  <= !=", "+5 p 1/3 1/3": "<= =  >=", "+6 p 0 -1": "!= >= > "} {
		f := fact(call[1:])
		tuple := fmt.Sprintf("x=%s y=%s #%d", f.Vals[0].S, f.Vals[1].S, f.Id)
		var told []string
		for i := range l {
			for op := range strings.FieldsSeq(want) {
				if op == ops[i%6] {
					told = append(told, fmt.Sprintf("+%d %s", i, tuple))
				}
			}
		}
		b.call(call, told...)
	}
	b.empty()
}

// P19.1 (S1): tests of texts, symbols, truths, facts' numbers and sets: the same, or not.
func TestSame(t *testing.T) {
	b := ofText(t, "(w (t ?x)) (if = ?x \"a\")", "(w (s ?x)) (if != ?x 'a)", "(w (b ?x)) (if = true ?x)", "(as ?f (e)) (as ?g (e)) (if = ?f ?g)", "(let ?s set ?x () ((p (a ?x)))) (let ?t set ?x () ((p (b ?x)))) (if = ?s ?t)", "(let ?f min ?g () ((as ?g (e)))) (as ?g (e)) (if != ?g ?f)")
	b.tells(4, "s={} t={}")
	b.call("+1 w 1 \"a\" 'a true", "+0 x=\"a\" #1", "+2 x=true #1")
	b.call("+2 w 1 \"b\" 'b false", "+1 x='b #2")
	b.call("+3 e", "+3 f=#3 g=#3 #3 #3")
	b.call("+4 e", "+3 f=#4 g=#4 #4 #4", "+5 f=#3 g=#4 #4")
	b.call("-3", "-3 f=#3 g=#3 #3 #3", "-5 f=#3 g=#4 #4")
	b.call("+5 p 1 2", "-4 s={} t={}")
	b.call("+6 p 2 1", "+4 s={1, 2} t={1, 2}")
	b.call("+7 p 2 3", "-4 s={1, 2} t={1, 2}")
	b.empty()
}

// P19.1 (S1): a test of an expression that has an error does not hold, by whatever op: a division by nothing, none, a set in a sum, a number too long.
func TestErrorsInTests(t *testing.T) {
	for _, op := range []string{"<", "<=", "=", "!=", ">=", ">"} {
		b := ofText(t, "(p (a ?x)) (if "+op+" (/ 1 ?x) (/ 1 ?x))", "(let ?m min ?x () ((p (a ?x)))) (if "+op+" (+ ?m 0) ?m)", "(p (a ?x)) (if "+op+" (* ?x ?x) (* ?x ?x))", "(let ?m max ?x () ((p (a ?x)))) (if "+op+" (- ?m 1) ?m)")
		same := strings.Contains(op, "=") && op != "!="
		b.tells(0).tells(1).tells(2).tells(3)
		var zero, long, longer []string
		if same {
			zero = []string{"+1 m=0", "+2 x=0 #1"}
			long = []string{"+0 x=" + nines(298) + " #2"}
		}
		if op == "<" || op == "<=" || op == "!=" {
			zero = append(zero, "+3 m=0")
			long = append(long, "-3 m=0", "+3 m="+nines(298))
			longer = []string{"-3 m=" + nines(298), "+3 m=" + nines(300)}
		}
		b.call("+1 p 0 0", zero...)
		b.call("+2 p "+nines(298)+" 0", long...)
		b.call("+3 p "+nines(300)+" 0", longer...)
		b.empty()
	}
	b := ofText(t, "(let ?m min ?x () ((p (a ?x)))) (if < ?m 1)", "(let ?m min ?x () ((p (a ?x)))) (if >= ?m 1)", "(let ?m avg ?x () ((p (a ?x)))) (if != ?m 1)", "(let ?m avg ?x () ((p (a ?x)))) (if = ?m ?m)")
	b.tells(0).tells(1).tells(2, "m=none").tells(3, "m=none")
	b.call("+1 p 1 0", "+1 m=1", "-2 m=none", "-3 m=none", "+3 m=1")
	b.empty()
}
