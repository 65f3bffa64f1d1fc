package net_test

import (
	"fmt"
	"slices"
	"testing"

	"tribunal/api"
)

// P19.1 (S2): one fact that changes two things, and more, in one step: what is told is what Set told ahead, against what it tells then, and nothing that came and went between.
func TestTwoAtOnce(t *testing.T) {
	// A pattern and an absence of one template.
	b := ofText(t, "(p (a ?x)) (not (p (b ?x)))", "(not (p (b 1))) (p (a 1))", "(as ?f (p)) (not (p (a 1)))")
	b.call("+1 p 1 1")
	b.call("+2 p 2 3", "+0 x=2 #2")
	b.call("+3 p 3 2", "-0 x=2 #2")
	b.call("-1", "+2 f=#2 #2", "+2 f=#3 #3")
	b.call("-2", "+0 x=3 #3", "-2 f=#2 #2")
	b.empty()
	// Two absences: of both none may be there.
	b = ofText(t, "(not (p (a 1))) (not (p (b 1)))", "(q (a ?x)) (not (p (a ?x))) (not (p (b ?x)))")
	b.call("+9 q 1 'a", "+1 x=1 #9")
	b.call("+1 p 1 1", "-0", "-1 x=1 #9")
	b.call("+2 p 1 0")
	b.call("-1")
	b.call("-2", "+0", "+1 x=1 #9")
	b.empty()
	// A pattern, and what a let is over: the old result and the new one are told of nothing that was not there.
	b = ofText(t, "(p (a ?x)) (let ?n count ?f () ((as ?f (p))))", "(let ?n count ?f () ((as ?f (p)))) (p (a ?x))", "(p (a ?x)) (let ?n count ?f (?x) ((as ?f (p (a ?x))))) (if > ?n 1)", "(p (a ?n)) (let ?m sum ?x () ((p (b ?x)))) (if < ?n ?m)")
	b.call("+1 p 7 1", "+0 n=1 x=7 #1", "+1 n=1 x=7 #1")
	b.call("+2 p 7 1", "-0 n=1 x=7 #1", "+0 n=2 x=7 #1", "+0 n=2 x=7 #2", "-1 n=1 x=7 #1", "+1 n=2 x=7 #1", "+1 n=2 x=7 #2", "+2 n=2 x=7 #1", "+2 n=2 x=7 #2")
	b.call("-1", "-0 n=2 x=7 #1", "-0 n=2 x=7 #2", "+0 n=1 x=7 #2", "-1 n=2 x=7 #1", "-1 n=2 x=7 #2", "+1 n=1 x=7 #2", "-2 n=2 x=7 #1", "-2 n=2 x=7 #2")
	b.empty()
	// Both lets of a rule, whose results are alike again once both have changed.
	b = ofText(t, "(let ?n count ?x () ((p (a ?x)))) (let ?m sum ?y () ((p (b ?y)))) (if = ?n ?m)", "(let ?n sum ?x () ((p (a ?x)))) (let ?m sum ?y () ((p (b ?y)))) (if = (- ?n ?m) 1)", "(let ?n count ?x () ((p (a ?x)))) (let ?m count ?x () ((p (a ?x)))) (if != ?n ?m)")
	b.call("+1 p 2 1", "-0 m=0 n=0", "+0 m=1 n=1", "+1 m=1 n=2")
	b.call("+2 p 5 5", "-0 m=1 n=1", "-1 m=1 n=2", "+1 m=6 n=7")
	b.call("+3 p 0 -3", "+0 m=3 n=3", "-1 m=6 n=7")
	b.empty()
}

// P19.1 (S2): a let, and the let that it stands in, over facts that are in both; a result that comes to be the same is told not at all.
func TestLetInLetAtOnce(t *testing.T) {
	b := ofText(t, "(let ?n sum ?m () ((let ?m count ?x (?y) ((p (a ?x) (b ?y)))) (p (a ?y))))", "(let ?n count ?x () ((p (a ?x)) (let ?m count ?x () ((p (a ?x)))) (if <= ?m 1)))", "(let ?d count ?x () ((let ?n sum ?x () ((p (a ?x)))) (let ?m sum ?y () ((p (b ?y)))) (if = ?n ?m) (e) (p (a ?x))))", "(let ?n max ?m () ((let ?m count ?x (?y) ((p (a ?x) (b ?y))))))")
	b.call("+1 p 1 1", "-0 n=0", "+0 n=1", "-1 n=0", "+1 n=1", "-3 n=none", "+3 n=1")
	b.call("+2 p 2 2", "-0 n=1", "+0 n=2", "-1 n=1", "+1 n=0")
	b.call("+3 e", "-2 d=0", "+2 d=2")
	b.call("+4 p 3 3", "-0 n=2", "+0 n=3", "-2 d=2", "+2 d=3")
	b.call("-2", "-0 n=3", "+0 n=2", "-2 d=3", "+2 d=2")
	b.call("+5 p 1 3", "-0 n=2", "+0 n=4", "-2 d=2", "+2 d=0", "-3 n=1", "+3 n=2")
	b.empty()
}

// P19.1 (S2): rules of the same first conditions, and the same rule twice, are each told; of rules without a change nothing; of each rule first those that are no more, then those that are now, each in order, of facts' numbers, then of values.
func TestOrderOfChanges(t *testing.T) {
	const first = "(p (a ?x)) (let ?n count ?f () ((as ?f (p))))"
	b := ofText(t, first, "(e)", first+"(q (a ?n))", first, first+"(u (a ?n))", "(not (p))")
	b.comes("+2 q 2 'a", "+3 u 3 1")
	b.call("+10 p 10 0", "+0 n=1 x=10 #10", "+3 n=1 x=10 #10", "-5")
	b.call("+9 p 9 0", "-0 n=1 x=10 #10", "+0 n=2 x=9 #9", "+0 n=2 x=10 #10", "+2 n=2 x=9 #9 #2", "+2 n=2 x=10 #10 #2", "-3 n=1 x=10 #10", "+3 n=2 x=9 #9", "+3 n=2 x=10 #10")
	b.call("+100 p 1 0", "-0 n=2 x=9 #9", "-0 n=2 x=10 #10", "+0 n=3 x=9 #9", "+0 n=3 x=10 #10", "+0 n=3 x=1 #100", "-2 n=2 x=9 #9 #2", "-2 n=2 x=10 #10 #2", "-3 n=2 x=9 #9", "-3 n=2 x=10 #10", "+3 n=3 x=9 #9", "+3 n=3 x=10 #10", "+3 n=3 x=1 #100", "+4 n=3 x=9 #9 #3", "+4 n=3 x=10 #10 #3", "+4 n=3 x=1 #100 #3")
	b.call("+4 w 1 \"\" 'a true")
	b.call("-4")
	b.call("-2")
	b.call("-3", "-4 n=3 x=9 #9 #3", "-4 n=3 x=10 #10 #3", "-4 n=3 x=1 #100 #3")
	b.empty()
	// On the same facts, by values: numbers by what they are, not by their texts; a number ahead of a text, and so on.
	b = ofText(t, "(e) (let ?n count ?f (?x) ((as ?f (p (a ?x)))))", "(let ?v max ?x (?y) ((p (a ?x) (b ?y))))")
	b.comes("+1 e", "+2 p 10 10", "+3 p 9 9", "+4 p -1 1", "+5 p 19/2 2")
	b.call("-1", "-0 n=1 x=-1 #1", "-0 n=1 x=9 #1", "-0 n=1 x=19/2 #1", "-0 n=1 x=10 #1")
	b.call("+7 e", "+0 n=1 x=-1 #7", "+0 n=1 x=9 #7", "+0 n=1 x=19/2 #7", "+0 n=1 x=10 #7")
	b.tells(1, "v=-1 y=1", "v=9 y=9", "v=19/2 y=2", "v=10 y=10")
	b.empty()
}

// broad is conditions that any fact changes.
func broad() []string {
	return []string{"(p)", "(as ?f (p (a ?x) (b ?y)))", "(not (p))", "(let ?n count ?f () ((as ?f (p))))", "(e)", "(not (e))", "(as ?f (e))", "(q)", "(w (n ?n) (t ?t) (s ?s) (b ?b))", "(let ?n set ?f () ((as ?f (w))))"}
}

// P19.1 (S2): Add of a number that is there already, with the same fact and with others, tells nothing, and changes nothing.
func TestAddTwice(t *testing.T) {
	b := ofText(t, broad()...)
	for _, s := range []string{"+7 p 1 2", "+1 e", "+999999999 w 1 \"\" 'a true"} {
		b.take(s)
		number := fact(s[1:]).Id
		for _, other := range []string{"p 1 2", "p 2 1", "e", "q 1 'a", "w 1 \"\" 'a true", "w 2 \"\" 'a true", "nothere", "p", "p 1"} {
			b.call(fmt.Sprintf("+%d %s", number, other))
			b.call(s)
		}
	}
	b.empty()
}

// P19.1 (S2): the numbers of facts are 1 to 999999999; Add of another one, and Del of one, tell nothing, and change nothing; nor does Add of a fact that does not fit: of no template, of too few and too many values, of another kind, wrong ones.
func TestWrongFacts(t *testing.T) {
	b := ofText(t, broad()...)
	for _, there := range []string{"", "+5 p 1 1", "+6 e"} {
		if there != "" {
			b.take(there)
		}
		for _, number := range edges() {
			for _, s := range []string{"p 1 2", "e", "q 1 'a", "nothere"} {
				b.call(fmt.Sprintf("+%d %s", number, s))
				b.call(fmt.Sprintf("-%d", number))
			}
		}
		for _, s := range []string{"", "nothere", "nothere 1", "P 1 2", "p", "p 1", "p 1 2 3", "e 1", "q 1", "q 'a 1", "p 'a 1", "p 1 'a", "p 1 \"1\"", "p none 1", "p 1 #1", "p {1} 1", "p 01 1", "p 2/2 1", "p 1/0 1", "p x 1", "q 1 'A", "q 1 '", "w 1 \"\" 'a 'true", "w 1 'a \"\" true", "p " + nines(301) + " 1"} {
			b.call("+7 " + s)
			b.call("-7")
		}
		for _, v := range []api.Value{{Kind: 9, S: "1"}, {Kind: -1, S: "1"}, {Kind: api.Num}, text("\n"), sym("\xff"), {Kind: api.Bool, S: "True"}} {
			for at := range 4 {
				f := fact("7 w 1 \"\" 'a true")
				f.Vals[at] = v
				if got := b.add(f); len(got) > 0 {
					t.Fatalf("%s: got %s", brief(f), told(got))
				}
			}
		}
		b.call("+7 w 1 \"\" 'a true", "+8 b=true n=1 s='a t=\"\" #7", "-9 n={}", "+9 n={#7}")
		b.call("-7", "-8 b=true n=1 s='a t=\"\" #7", "-9 n={#7}", "+9 n={}")
	}
	b.call("+999999999 q 1 'a", "+7 #999999999")
	b.call("+1 q 1 'a", "+7 #1")
	b.empty()
}

// P19.1 (S2): Del of a number that there is none of, twice, and of what was never taken; a number may come again, with other values, of another template.
func TestDel(t *testing.T) {
	b := ofText(t, broad()...)
	for _, number := range append(edges(), 1, 2, 7, 8, 999999999) {
		b.call(fmt.Sprintf("-%d", number))
	}
	b.call("+7 p 1")
	b.call("-7")
	for _, other := range []string{"+8 u 1 1", "+9 e"} {
		b.call("+7 p 1 2", "+0 #7", "+1 f=#7 x=1 y=2 #7", "-2", "-3 n=0", "+3 n=1")
		b.call("-8")
		b.call("-7", "-0 #7", "-1 f=#7 x=1 y=2 #7", "+2", "-3 n=1", "+3 n=0")
		b.call("-7")
		b.call("+7 p 3 2", "+0 #7", "+1 f=#7 x=3 y=2 #7", "-2", "-3 n=0", "+3 n=1")
		b.call("-7", "-0 #7", "-1 f=#7 x=3 y=2 #7", "+2", "-3 n=1", "+3 n=0")
		b.call("+7 q 3 'a", "+7 #7")
		b.call("-7", "-7 #7")
		b.call("+7 u 3 3")
		b.call("-7")
		b.take(other)
	}
	b.empty()
}

// P19.1 (S2), P19.2: texts that look like tuples, and values near each other, are not taken for one another.
func TestNearTexts(t *testing.T) {
	l := []string{"", " ", "1", "a", "'a", "true", "none", "#1", "1 s='a", "x=1", "x=1 #1 ", "=", "#", "{", "{1}", "1/2", "a ", " a", ")", "(not (w))", "( w ( t ?t ) )", "?t"}
	b := ofText(t, "(w (t ?t) (s ?s))", "(let ?n count ?f (?t) ((as ?f (w (t ?t)))))", "(let ?n set ?t () ((w (t ?t))))", "(w (t ?t)) (not (w (t ?t) (s 'b)))", "(as ?f (w (t ?t))) (as ?g (w (t ?t))) (if != ?f ?g)")
	for i, s := range l {
		b.add(api.Fact{Id: 2*i + 1, Tmpl: "w", Vals: []api.Value{num("1"), text(s), sym("a"), read("true")}})
	}
	for i, s := range l {
		got := told(b.add(api.Fact{Id: 2*i + 2, Tmpl: "w", Vals: []api.Value{num("1"), text(s), sym("b"), read("true")}}))
		if len(got) != 6 || !slices.Contains(got, fmt.Sprintf("-3 t=%q #%d", s, 2*i+1)) {
			t.Fatalf("%q: got %q", s, got)
		}
	}
	b.empty()
}
