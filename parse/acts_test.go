package parse_test

import (
	"slices"
	"testing"

	"tribunal/api"
)

// P11.1: actions that fill slots, of none, one and many.
func TestFillingActions(t *testing.T) {
	x, sum := api.Fill{Name: "x", E: num("1")}, api.Fill{Name: "sum", E: two("+", named("y"), num("2"))}
	checkAct(t, "(assert a)", api.Act{Kind: api.ActAssert, Tmpl: "a"})
	checkAct(t, "(assert a (x 1))", api.Act{Kind: api.ActAssert, Tmpl: "a", Fills: []api.Fill{x}})
	checkAct(t, "(assert a (x 1) (sum (+ ?y 2)) (x 1))", api.Act{Kind: api.ActAssert, Tmpl: "a", Fills: []api.Fill{x, sum, x}})
	checkAct(t, "(assert a"+times("(x 1)", 20)+")", api.Act{Kind: api.ActAssert, Tmpl: "a", Fills: slices.Repeat([]api.Fill{x}, 20)})
	checkAct(t, "(modify ?f)", api.Act{Kind: api.ActModify, Var: "f"})
	checkAct(t, "(modify ?f (sum (+ ?y 2)))", api.Act{Kind: api.ActModify, Var: "f", Fills: []api.Fill{sum}})
	checkAct(t, "(modify ?f (x 1) (sum (+ ?y 2)) (x 1))", api.Act{Kind: api.ActModify, Var: "f", Fills: []api.Fill{x, sum, x}})
	for _, s := range names() {
		fill := api.Fill{Name: s, E: named(s)}
		checkAct(t, "(assert "+s+" ("+s+" ?"+s+"))", api.Act{Kind: api.ActAssert, Tmpl: s, Fills: []api.Fill{fill}})
		checkAct(t, "(modify ?"+s+" ("+s+" ?"+s+"))", api.Act{Kind: api.ActModify, Var: s, Fills: []api.Fill{fill}})
	}
	for _, begin := range []string{"(assert a", "(modify ?f", "(assert a (x 1)", "(modify ?f (x 1)"} {
		for _, s := range []string{
			" ^x)", " ^?y)", " ^1)", " ^none)", " ^=)", " (^))", " (^?x 1))", " (^1 1))", " (^none 1))", " (^true 1))", " (^'x 1))", ` (^"x" 1))`, " (^(x) 1))", " (^+ 1 2))",
			" (x ^))", " (x ^a))", " (x ^+))", " (x (^a)))", " (x (^)))", " (x 1 ^2))", " (x 1 ^?y))", " (x 1 ^(+ 1 2)))", " (x ?y ^a))", " (x (+ 1 2) ^3))", " (x ^#7))", " (x ^{1}))",
		} {
			checkNoAct(t, begin+s)
		}
	}
	for _, s := range []string{
		"(assert ^)", "(assert ^?a)", "(assert ^1)", "(assert ^true)", "(assert ^false)", "(assert ^none)", "(assert ^'a)", `(assert ^"a")`, "(assert ^+)", "(assert ^(a))",
		"(modify ^)", "(modify ^f)", "(modify ^1)", "(modify ^none)", "(modify ^'f)", "(modify ^-)", "(modify ^(x 1))",
	} {
		checkNoAct(t, s)
	}
}

// P11.1: the other actions.
func TestOtherActions(t *testing.T) {
	checkAct(t, "(halt)", api.Act{Kind: api.ActHalt})
	checkAct(t, "(retract ?f)", api.Act{Kind: api.ActRetract, Var: "f"})
	checkAct(t, "(print none)", api.Act{Kind: api.ActPrint})
	checkAct(t, "(print (/ 1 0))", api.Act{Kind: api.ActPrint, E: two("/", num("1"), num("0"))})
	for _, s := range names() {
		checkAct(t, "(retract ?"+s+")", api.Act{Kind: api.ActRetract, Var: s})
		checkAct(t, "(print ?"+s+")", api.Act{Kind: api.ActPrint, E: named(s)})
		if !slices.Contains([]string{"assert", "retract", "modify", "print", "halt"}, s) {
			checkNoAct(t, "(^"+s+")")
			checkNoAct(t, "(^"+s+" ?f)")
		}
	}
	for _, s := range []string{
		"(halt ^1)", "(halt ^?f)", "(halt ^a)", "(halt ^(a))", "(halt ^halt)", "(halt ^=)", "(halt ^(halt))",
		"(retract ^)", "(retract ^f)", "(retract ^1)", "(retract ^(f))", "(retract ^none)", "(retract ^<)", "(retract ?f ^?f)", "(retract ?f ^(x 1))", "(retract ?f ^a)", "(retract ?f ^1)",
		"(print ^)", "(print ^a)", "(print ^+ 1 2)", "(print ^=)", "(print ?x ^?x)", "(print 1 ^2)", "(print 1 ^a)", "(print 1 ^(+ 1 2))", "(print (^a))", "(print (^))", "(print ^#7)", "(print ^{1})",
		"(^?halt)", "(^1)", "(^none)", "(^true)", "(^'halt)", `(^"halt")`, "(^=)", "(^)", "(^(halt))", "^halt", "^?f", "^1", "^=", "(^halts)", "(^print2 1)",
	} {
		checkNoAct(t, s)
	}
}

// P11.1: expressions, of each kind of term, and each sign, and of signs that are none of these.
func TestExpressions(t *testing.T) {
	printed := func(s string, want api.Expr) {
		t.Helper()
		checkAct(t, "(print "+s+")", api.Act{Kind: api.ActPrint, E: want})
		checkAct(t, "(assert a (x "+s+"))", api.Act{Kind: api.ActAssert, Tmpl: "a", Fills: []api.Fill{{Name: "x", E: want}}})
		checkAct(t, "(modify ?f (x "+s+"))", api.Act{Kind: api.ActModify, Var: "f", Fills: []api.Fill{{Name: "x", E: want}}})
		checkCond(t, "(if < "+s+" "+s+")", api.Cond{Kind: api.CondIf, Op: "<", A: want, B: want})
	}
	none := func(marked string) {
		t.Helper()
		checkNoAct(t, "(print "+marked+")")
		checkNoAct(t, "(assert a (x "+marked+"))")
		checkNoCond(t, "(if < "+marked+" 1)")
		checkNoCond(t, "(if < 1 "+marked+")")
	}
	for s, term := range terms() {
		e := api.Expr{T: term}
		printed(s, e)
		printed("(* "+s+" ?x)", two("*", e, named("x")))
		printed("(- 1 "+s+")", two("-", num("1"), e))
	}
	for _, s := range noTerms() {
		if s == "^(a)" || s == "^()" {
			s = "(^" + s[2:]
		}
		none(s)
		none("(* " + s + " ?x)")
		none("(- 1 " + s + ")")
	}
	for _, op := range []string{"+", "-", "*", "/"} {
		printed("("+op+" 1 ?x)", two(op, num("1"), named("x")))
		printed("("+op+" ("+op+" 1 2) ("+op+" 3 4))", two(op, two(op, num("1"), num("2")), two(op, num("3"), num("4"))))
	}
	for _, s := range []string{"(^<", "(^<=", "(^>", "(^>=", "(^=", "(^!=", "(^?x", "(^a", `(^"+"`, "(^none", "(^-1", "(^(", "(^)"} {
		none(s + " 1 ?x)")
	}
	for _, s := range []string{"(+ ^)", "(+ 1 ^)", "(+ 1 2 ^3)", "(+ 1 2 ^?x)", "(+ 1 2 ^(+ 1 2))", "(+ ^+ 1 2)", "(+ 1 ^+ 2)", "(+ 1 2 ^+)", "(+ ^- 1 2)", "(+ (+ 1 ^) 2)", "(+ (+ 1 2 ^3) 2)", "(+ 1 (^1))", "(+ (^) 1)"} {
		none(s)
	}
}

// P11.1: expressions deep in one another, at the left, at the right, and at both.
func TestDeepExpressions(t *testing.T) {
	for _, n := range []int{1, 5, 6, 7, 100, 1000, 1480} {
		left, right := num("1"), num("1")
		for range n {
			left, right = two("+", left, num("2")), two("/", named("x"), right)
		}
		checkRight(t, "(rule r 0()((print "+times("(+", n)+" 1"+times(" 2)", n)+")))", ofRule(api.Rule{Name: "r", Acts: []api.Act{{Kind: api.ActPrint, E: left}}}))
		if n < 1300 {
			checkRight(t, "(rule r 0()((print "+times("(/?x", n)+" 1"+times(")", n)+")))", ofRule(api.Rule{Name: "r", Acts: []api.Act{{Kind: api.ActPrint, E: right}}}))
		}
		checkWrong(t, "(rule r 0()((print "+times("(+", n)+"^")
		checkWrong(t, "(rule r 0()((print "+times("(+", n)+"^)")
		checkWrong(t, "(rule r 0()((print "+times("(+", n)+"(^<")
		checkWrong(t, "(rule r 0()((print "+times("(+", n)+" 1"+times(" 2)", n-1)+" 2^")
		checkWrong(t, "(rule r 0()((print "+times("(+", n)+" 1"+times(" 2)", n-1)+" 2 ^2")
		checkWrong(t, "(rule r 0()((print "+times("(+", n)+" 1"+times(" 2)", n-1)+"^)")
	}
	both, s := num("1"), "1"
	for range 8 {
		both, s = two("*", both, both), "(* "+s+" "+s+")"
	}
	checkRight(t, "(rule r 0 () ((print "+s+")))", ofRule(api.Rule{Name: "r", Acts: []api.Act{{Kind: api.ActPrint, E: both}}}))
}

// P11.1, P1: thousands of signs, deep in one another or not.
func TestThousands(t *testing.T) {
	checkWrong(t, "(^"+times("(", 7999))
	checkWrong(t, "^"+times(")", 8000))
	checkWrong(t, "(rule r 0 () ((print "+times("(-", 3980)+"^")
	checkWrong(t, "(rule r 0 () ((print "+times("(-", 3980)+"(^")
	checkWrong(t, "(rule r 0 () ((print "+times("(-", 3980)+"^)")
	checkWrong(t, "(rule r 0 () ((print (+ ^"+times("+ ", 3900))
	checkWrong(t, "(rule r 0 ((^"+times("(", 7900))
	checkWrong(t, "(rule r 0 ((not (^"+times("(", 7900))
	checkWrong(t, "(rule r 0 () ()) ^"+times(")", 7900))
	checkWrong(t, "(rule r 0 () ((print (+"+" 1"+" 2 ^"+times("2 ", 3900))
	checkWrong(t, "^"+times("halt ", 1600))
}
