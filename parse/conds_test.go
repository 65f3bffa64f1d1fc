package parse_test

import (
	"slices"
	"testing"

	"tribunal/api"
)

// terms is what terms are written as, and what each is.
func terms() map[string]api.Term {
	return map[string]api.Term{
		"?x":                        {Var: "x"},
		"?if":                       {Var: "if"},
		"?true":                     {Var: "true"},
		"?none":                     {Var: "none"},
		"?" + times("z", 24):        {Var: times("z", 24)},
		"none":                      {},
		"true":                      {V: api.Value{Kind: api.Bool, S: "true"}},
		"false":                     {V: api.Value{Kind: api.Bool, S: "false"}},
		"0":                         {V: api.Value{Kind: api.Num, S: "0"}},
		"-3/2":                      {V: api.Value{Kind: api.Num, S: "-3/2"}},
		"1001":                      {V: api.Value{Kind: api.Num, S: "1001"}},
		times("9", 300):             {V: api.Value{Kind: api.Num, S: times("9", 300)}},
		`""`:                        {V: api.Value{Kind: api.Text}},
		`"a ( b) ?x 'y"`:            {V: api.Value{Kind: api.Text, S: "a ( b) ?x 'y"}},
		`"` + times("~", 100) + `"`: {V: api.Value{Kind: api.Text, S: times("~", 100)}},
		"'red":                      {V: api.Value{Kind: api.Sym, S: "red"}},
		"'true":                     {V: api.Value{Kind: api.Sym, S: "true"}},
		"'" + times("z", 24):        {V: api.Value{Kind: api.Sym, S: times("z", 24)}},
	}
}

// noTerms is what is no term: signs, names, lists, values that are no tokens.
func noTerms() []string {
	return []string{"^a", "^nones", "^truea", "^+", "^-", "^<=", "^!=", "^)", "^(a)", "^()", "^#7", "^{1}", "^{}", "^6/4", `^"`, "^?", "^'", "^A"}
}

// P11.1: patterns, of no slots, one and many, and of each kind of term.
func TestPatterns(t *testing.T) {
	pat := func(name string, l ...api.Slot) api.Cond {
		return api.Cond{Kind: api.CondPat, Pat: api.Pat{Tmpl: name, Slots: l}}
	}
	checkCond(t, "(a)", pat("a"))
	checkCond(t, "(a (x 1))", pat("a", api.Slot{Name: "x", T: api.Term{V: api.Value{Kind: api.Num, S: "1"}}}))
	checkCond(t, "(a (x ?y) (x none) (z ?y))", pat("a", api.Slot{Name: "x", T: api.Term{Var: "y"}}, api.Slot{Name: "x"}, api.Slot{Name: "z", T: api.Term{Var: "y"}}))
	checkCond(t, "(a"+times("(x none)", 20)+")", pat("a", slices.Repeat([]api.Slot{{Name: "x"}}, 20)...))
	for s, term := range terms() {
		checkCond(t, "(a (x "+s+"))", pat("a", api.Slot{Name: "x", T: term}))
		checkCond(t, "(a (y 'red)(x "+s+")(z ?z))", pat("a", api.Slot{Name: "y", T: api.Term{V: api.Value{Kind: api.Sym, S: "red"}}}, api.Slot{Name: "x", T: term}, api.Slot{Name: "z", T: api.Term{Var: "z"}}))
	}
	for _, s := range noTerms() {
		checkWrong(t, "(rule r 0 ((a (x "+s+"))) ())")
	}
	for _, s := range names() {
		checkCond(t, "(a ("+s+" ?x))", pat("a", api.Slot{Name: s, T: api.Term{Var: "x"}}))
	}
	for _, s := range []string{
		"(a ^?x)", "(a ^1)", "(a ^b)", "(a ^x 1)", "(a ^none)", "(a ^<)", "(a (^?x 1))", "(a (^1 1))", "(a (^none 1))", "(a (^true ?x))", "(a (^'x 1))", `(a (^"x" 1))`, "(a (^()))", "(a (^) )", "(a (x 1 ^2))", "(a (x ?y ^?z))", "(a (x 1 ^y))", "(a (x 1) ^y)", "(a (x 1) (^))", "(a (x ^(+ 1 2)))",
		"(^?a)", "(^1)", "(^'a)", "(^none)", "(^true)", "(^false)", "(^=)", "(^)", "(^(a))", "^a", "^?a", "^1", "^=",
	} {
		checkNoCond(t, s)
	}
}

// P11.1: where a pattern alone may stand, and as what a condition begins, its name may be any; elsewhere the first name tells which condition it is.
func TestPatternNames(t *testing.T) {
	slots := []api.Slot{{Name: "as", T: api.Term{Var: "not"}}}
	for _, s := range names() {
		checkCond(t, "(not ("+s+"))", api.Cond{Kind: api.CondNot, Pat: api.Pat{Tmpl: s}})
		checkCond(t, "(not ("+s+" (as ?not)))", api.Cond{Kind: api.CondNot, Pat: api.Pat{Tmpl: s, Slots: slots}})
		checkCond(t, "(as ?f ("+s+"))", api.Cond{Kind: api.CondPat, As: "f", Pat: api.Pat{Tmpl: s}})
		checkCond(t, "(as ?f ("+s+" (as ?not)))", api.Cond{Kind: api.CondPat, As: "f", Pat: api.Pat{Tmpl: s, Slots: slots}})
		if !slices.Contains([]string{"as", "not", "if", "let"}, s) {
			checkCond(t, "("+s+")", api.Cond{Kind: api.CondPat, Pat: api.Pat{Tmpl: s}})
			checkCond(t, "("+s+" (as ?not))", api.Cond{Kind: api.CondPat, Pat: api.Pat{Tmpl: s, Slots: slots}})
		}
	}
	for _, s := range []string{
		"(as ^)", "(as ^(x 1))", "(as ^(as ?x))", "(not ^)", "(not (x ^1))", "(not (x ^?y))", "(if ^)", "(if ^(x 1))", "(let ^)", "(let ^(x ?y))",
		"(not (not (a^)))", "(not (as ^?x (a)))", "(not (if ^< 1 2))", "(not (let ^?x count ?y () ()))", "(as ?f (not ^a))", "(as ?f (as ^?g (a)))", "(as ?f (if ^= 1 1))", "(as ?f (let ^?x))", "(as ?f (not (a ^(b))))", "(not (not (a ^(b))))",
	} {
		checkNoCond(t, s)
	}
}

// P11.1: a pattern with a fact's variable, and none.
func TestAsAndNot(t *testing.T) {
	a := api.Pat{Tmpl: "a"}
	long := api.Pat{Tmpl: "b", Slots: []api.Slot{{Name: "x", T: api.Term{Var: "y"}}, {Name: "z", T: api.Term{V: api.Value{Kind: api.Text, S: "z"}}}}}
	checkCond(t, "(as ?f (a))", api.Cond{Kind: api.CondPat, As: "f", Pat: a})
	checkCond(t, `(as ?as (b (x ?y) (z "z")))`, api.Cond{Kind: api.CondPat, As: "as", Pat: long})
	checkCond(t, "(not (a))", api.Cond{Kind: api.CondNot, Pat: a})
	checkCond(t, `(not (b (x ?y) (z "z")))`, api.Cond{Kind: api.CondNot, Pat: long})
	for _, s := range []string{
		"(as ^f (a))", "(as ^1 (a))", "(as ^'f (a))", "(as ^none (a))", "(as ^+ (a))", "(as ?f ^a)", "(as ?f ^)", "(as ?f ^?g (a))", "(as ?f ^1)", "(as ?f (^?g))", "(as ?f (^1))", "(as ?f (^none))", "(as ?f (^))", "(as ?f (a) ^(b))", "(as ?f (a) ^b)", "(as ?f (a) ^?g)", "(as ?f (^(a)))",
		"(not ^a)", "(not ^?f (a))", "(not ^1)", "(not ^=)", "(not (^))", "(not (^?f))", "(not (^true))", "(not (a) ^(b))", "(not (a) ^b)", "(not (a) ^?b)", "(not (^(a)))",
	} {
		checkNoCond(t, s)
	}
}

// P11.1: tests, of each kind of term, and each sign.
func TestTests(t *testing.T) {
	for _, op := range []string{"<", "<=", ">", ">=", "=", "!="} {
		checkCond(t, "(if "+op+" 1 ?x)", api.Cond{Kind: api.CondIf, Op: op, A: num("1"), B: named("x")})
		checkNoCond(t, "(if "+op+" (^"+op+" 1 ?x) ?x)")
		checkNoCond(t, "(if "+op+" ^"+op+" 1)")
	}
	for _, op := range []string{"+", "-", "*", "/"} {
		checkCond(t, "(if = ("+op+" 1 ?x) ("+op+" ?x 2))", api.Cond{Kind: api.CondIf, Op: "=", A: two(op, num("1"), named("x")), B: two(op, named("x"), num("2"))})
		checkNoCond(t, "(if ^"+op+" 1 ?x)")
		checkNoCond(t, "(if = ^"+op+" 1 ?x)")
	}
	for s, term := range terms() {
		checkCond(t, "(if != "+s+" 1)", api.Cond{Kind: api.CondIf, Op: "!=", A: api.Expr{T: term}, B: num("1")})
		checkCond(t, "(if != ?x "+s+")", api.Cond{Kind: api.CondIf, Op: "!=", A: named("x"), B: api.Expr{T: term}})
	}
	for _, s := range []string{
		"(if ^a 1 2)", "(if ^?x 1 2)", "(if ^1 2)", `(if ^"<" 1 2)`, "(if ^(< 1 2))", "(if < ^)", "(if < 1 ^)", "(if < 1 2 ^3)", "(if < 1 2 ^?x)", "(if < 1 2 ^(+ 1 2))", "(if < 1 ^< 2)", "(if < ^a 1)", "(if < 1 ^a)", "(if < 1 (^a))", "(if < 1 ^#7)", "(if ^!)", "(if ^! = 1 2)", "(if < ^= 1 2)",
	} {
		checkNoCond(t, s)
	}
}

// P11.1: what comes of values: by none, one and many, over none, one and many.
func TestLets(t *testing.T) {
	a := api.Cond{Kind: api.CondPat, Pat: api.Pat{Tmpl: "a"}}
	checkCond(t, "(let ?v count ?x () ())", api.Cond{Kind: api.CondLet, Var: "v", Fold: "count", Arg: "x"})
	checkCond(t, "(let ?v sum ?x (?y) ((a)))", api.Cond{Kind: api.CondLet, Var: "v", Fold: "sum", Arg: "x", By: []string{"y"}, Over: []api.Cond{a}})
	checkCond(t, "(let ?let let ?let (?let ?y ?let) ((a)(a)(if < ?let 1)))", api.Cond{Kind: api.CondLet, Var: "let", Fold: "let", Arg: "let", By: []string{"let", "y", "let"},
		Over: []api.Cond{a, a, {Kind: api.CondIf, Op: "<", A: named("let"), B: num("1")}}})
	checkCond(t, "(let ?v set ?x ("+times("?y ", 20)+") ("+times("(a)", 20)+"))", api.Cond{Kind: api.CondLet, Var: "v", Fold: "set", Arg: "x", By: slices.Repeat([]string{"y"}, 20), Over: slices.Repeat([]api.Cond{a}, 20)})
	for _, s := range names() {
		checkCond(t, "(let ?"+s+" "+s+" ?"+s+" (?"+s+") ())", api.Cond{Kind: api.CondLet, Var: s, Fold: s, Arg: s, By: []string{s}})
	}
	for _, s := range []string{
		"(let ^v count ?x () ())", "(let ^1 count ?x () ())", "(let ^count ?x () ())", "(let ^none count ?x () ())", "(let ^(?v) count ?x () ())",
		"(let ?v ^?count ?x () ())", "(let ?v ^1 ?x () ())", "(let ?v ^'count ?x () ())", "(let ?v ^true ?x () ())", "(let ?v ^false ?x () ())", "(let ?v ^none ?x () ())", `(let ?v ^"count" ?x () ())`, "(let ?v ^+ ?x () ())", "(let ?v ^)", "(let ?v ^(count) ?x () ())",
		"(let ?v count ^x () ())", "(let ?v count ^1 () ())", "(let ?v count ^() ())", "(let ?v count ^none () ())", "(let ?v count ?x ^?y () ())", "(let ?v count ?x ^y ())", "(let ?v count ?x ^)", "(let ?v count ^(?x) () ())",
		"(let ?v count ?x (^y) ())", "(let ?v count ?x (?y ^z) ())", "(let ?v count ?x (^1) ())", "(let ?v count ?x (^none) ())", "(let ?v count ?x (?y ^2) ())", "(let ?v count ?x (^'y) ())", "(let ?v count ?x (^(?y)) ())", "(let ?v count ?x (?y ^+) ())", "(let ?v count ?x (?y ^(?z)) ())", "(let ?v count ?x (^=) ())",
		"(let ?v count ?x () ^)", "(let ?v count ?x () ^a)", "(let ?v count ?x () ^?y)", "(let ?v count ?x () (^a))", "(let ?v count ?x () (^?y))", "(let ?v count ?x () () ^())", "(let ?v count ?x () () ^a)", "(let ?v count ?x () ((^)))", "(let ?v count ?x () ((a) ^b))",
	} {
		checkNoCond(t, s)
	}
}

// P11.1: let in let, many deep.
func TestDeepLets(t *testing.T) {
	for _, n := range []int{1, 2, 5, 6, 7, 100, 380} {
		var l []api.Cond
		for range n {
			l = []api.Cond{{Kind: api.CondLet, Var: "a", Fold: "f", Arg: "x", Over: l}}
		}
		s := times("(let?a f?x()(", n)
		checkRight(t, "(rule r 0("+s+times("))", n)+")())", ofRule(api.Rule{Name: "r", Conds: l}))
		checkWrong(t, "(rule r 0("+s+"(a)"+times("))", n)+")^)")
		checkWrong(t, "(rule r 0("+s+times("))", n-1)+")^?b)())")
		checkWrong(t, "(rule r 0("+s+times("))", n-1)+"^")
		checkWrong(t, "(rule r 0("+s+"^a)")
	}
}
