package check_test

import (
	"fmt"
	"testing"

	"tribunal/api"
)

func orders() []string { return []string{"<", "<=", ">", ">="} }

func tests() []string { return append(orders(), "=", "!=") }

// ahead makes a variable of each type known: n, t, s, b, f and g (facts of two templates), u (a set); and m, a number too.
const ahead = "(as ?f (a (n ?n) (t ?t) (s ?s) (b ?b))) (as ?g (c (m ?m))) (let ?u set ?x () ((a (n ?x))))"

const aheadKnown = "n num, t text, s sym, b bool, f id a, m num, g id c, u set"

// sides is expressions by their types, where ahead is known.
func sides() map[int][]api.Expr {
	one := val(api.Num, "1")
	return map[int][]api.Expr{
		api.None: {{}, val(api.None, "")},
		api.Num:  {one, val(api.Num, "-3/2"), val(api.Num, times("9", 300)), at("n"), at("m"), op("+", one, one), op("/", at("n"), val(api.Num, "0")), op("*", op("-", at("n"), at("m")), op("+", one, at("n"))), deepTerm(6, at("n"))},
		api.Text: {val(api.Text, ""), val(api.Text, "1"), at("t")},
		api.Sym:  {val(api.Sym, "red"), val(api.Sym, "true"), at("s")},
		api.Bool: {val(api.Bool, "true"), val(api.Bool, "false"), at("b")},
		api.Id:   {at("f"), at("g")},
		api.Set:  {at("u")},
	}
}

// faulty is expressions that are wrong, where ahead is known, by their errors.
func faulty() map[api.Errno][]api.Expr {
	one := val(api.Num, "1")
	l := map[api.Errno][]api.Expr{
		api.ErrForm: {val(api.Id, "1"), val(api.Set, ""), val(api.Num, "2/4"), val(9, ""), {Op: "+"}, {Op: "%", L: []api.Expr{one, one}}, {Op: "+", L: []api.Expr{one}}, {Op: "+", L: []api.Expr{one, one, one}}, {T: api.Term{Var: "n"}, L: []api.Expr{one}}, {Op: "+", T: api.Term{Var: "n"}, L: []api.Expr{one, one}}, deepTerm(7, one), deepTerm(9, at("n")), op("+", at("q"), at("Q")), op("-", val(api.Sym, "x"), op("*", at("q"), val(api.Num, "01"))), {T: api.Term{Var: "n", V: of(api.Num, "1")}}},
		api.ErrNone: {at("q"), at("x"), op("+", at("q"), one), op("+", one, at("q")), op("+", val(api.Sym, "x"), at("q")), op("*", op("+", at("s"), at("t")), op("-", one, at("q"))), deepTerm(6, at("q")), op("+", at("f"), op("+", at("n"), at("q")))},
		api.ErrType: {},
	}
	for _, name := range noNames() {
		l[api.ErrForm] = append(l[api.ErrForm], at(name))
	}
	for kind := api.None; kind <= api.Set; kind++ {
		for _, e := range sides()[kind] {
			if kind != api.Num {
				l[api.ErrType] = append(l[api.ErrType], op("+", e, one), op("-", one, e), op("*", e, e), op("/", op("+", one, op("-", at("n"), e)), one), deepTerm(6, e))
			}
		}
	}
	return l
}

// test is conditions: ahead, and a test.
func test(t *testing.T, sign string, a, b api.Expr) []api.Cond {
	return append(rows(t, ahead), api.Cond{Kind: api.CondIf, Op: sign, A: a, B: b})
}

// P13.1 (M1): a test of each op, of two expressions of each two types: of <, <=, > and >= both are numbers, of = and != of one type; it makes nothing known.
func TestTypesOfTests(t *testing.T) {
	known(t, ahead, aheadKnown)
	for kind, some := range sides() {
		for other, more := range sides() {
			for i, a := range some {
				for j, b := range more {
					for _, sign := range tests() {
						if i > 1 && j > 1 && sign != "<" {
							continue
						}
						if kind == other && (kind == api.Num || sign == "=" || sign == "!=") {
							knownOf(t, test(t, sign, a, b), aheadKnown)
						} else {
							wrongOf(t, test(t, sign, a, b), api.ErrType)
						}
					}
				}
			}
		}
	}
}

// P13.1 (M1): an op that is none, whatever its expressions are.
func TestNoOps(t *testing.T) {
	one := val(api.Num, "1")
	for _, sign := range []string{"", "==", "=<", "=>", "<>", "!", "<<", "< ", " <", "+", "-", "*", "/", "lt", "if", "(", "\x00", "≤"} {
		for _, e := range []api.Expr{one, at("n"), at("q"), at("Q"), val(api.Sym, "x"), op("+", val(api.Sym, "x"), one), {}} {
			wrongOf(t, test(t, sign, one, e), api.ErrForm)
			wrongOf(t, test(t, sign, e, one), api.ErrForm)
			wrongOf(t, test(t, sign, e, e), api.ErrForm)
		}
	}
}

// P13.1 (M1): an expression that is wrong, at the left and at the right, beside a right one and another one that is wrong: the left one's error is told.
func TestErrorsOfTests(t *testing.T) {
	good := []api.Expr{val(api.Num, "1"), at("n"), val(api.Sym, "x"), at("f"), {}}
	for err, some := range faulty() {
		for _, bad := range some {
			for _, sign := range tests() {
				for _, e := range good {
					wrongOf(t, test(t, sign, bad, e), err)
					wrongOf(t, test(t, sign, e, bad), err)
				}
			}
			for _, others := range faulty() {
				for _, other := range others {
					wrongOf(t, test(t, "<=", bad, other), err)
				}
			}
		}
	}
}

// P13.1 (M1): of an expression that is wrong in more than one way ErrForm is told ahead of ErrNone, and that ahead of ErrType, at whichever side of an operation they are.
func TestErrorsOfOperations(t *testing.T) {
	faults := faulty()
	in := []api.Errno{api.ErrForm, api.ErrNone, api.ErrType}
	for i, err := range in {
		for _, bad := range faults[err] {
			for _, later := range in[i:] {
				for k, other := range faults[later] {
					if k%5 != 0 || err != api.ErrForm && depth(bad, 9) > 5 || later != api.ErrForm && depth(other, 9) > 5 {
						continue
					}
					for _, e := range []api.Expr{op("+", bad, other), op("*", other, bad)} {
						wrongOf(t, test(t, "=", e, val(api.Num, "1")), err)
						wrongOf(t, test(t, "=", val(api.Num, "1"), e), err)
					}
				}
			}
		}
	}
}

// P13.1 (M1): a variable of a test is known ahead of it: not by what stands behind, not by a not, not by what stands in a let alone.
func TestKnownAhead(t *testing.T) {
	for _, sign := range tests() {
		for _, bare := range []string{"(if %s ?x 1)", "(if %s 1 ?x)", "(if %s ?x ?x)", "(if %s (+ ?x 1) 2)", "(if %s 2 (* 1 (- 2 ?x)))"} {
			text := fmt.Sprintf(bare, sign)
			known(t, "(a (n ?x))"+text, "x num")
			known(t, "(let ?x count ?y () ((a (n ?y))))"+text, "x num")
			known(t, "(let ?v count ?x (?x) ((a (n ?x))))"+text, "x num, v num")
			known(t, "(let ?v count ?x () ((a (n ?x))"+text+"))", "v num")
			for _, ahead := range []string{"", "(e)", "(a (n ?y))", "(not (a (n ?x)))", "(let ?v count ?x () ((a (n ?x))))"} {
				wrong(t, ahead+text, api.ErrNone)
				wrong(t, ahead+text+"(a (n ?x))", api.ErrNone)
			}
			wrong(t, "(a (n ?x)) (let ?v count ?y () ((a (n ?y))"+text+"))", api.ErrNone)
		}
	}
}
