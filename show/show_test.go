package show_test

import (
	"math"
	"slices"
	"testing"

	"tribunal/api"
	"tribunal/parse"
	"tribunal/show"
)

// P12.1 (L1): programs of templates, of rules, of both and of none: templates first, each item with a line feed behind it.
func TestShow(t *testing.T) {
	checkShow(t, api.Program{}, "")
	checkShow(t, api.Program{Tmpls: []api.Template{}, Rules: []api.Rule{}}, "")
	a, b := api.Template{Name: "a"}, api.Template{Name: "b", Slots: []api.Field{{Name: "x", Type: api.Num}}}
	r, s := api.Rule{Name: "r"}, api.Rule{Name: "s", Salience: 2, Acts: []api.Act{{Kind: api.ActHalt}}}
	lineA, lineB, lineR, lineS := "( template a )\n", "( template b ( x num ) )\n", "( rule r 0 ( ) ( ) )\n", "( rule s 2 ( ) ( ( halt ) ) )\n"
	checkShow(t, api.Program{Tmpls: []api.Template{a}}, lineA)
	checkShow(t, api.Program{Tmpls: []api.Template{a, b}}, lineA+lineB)
	checkShow(t, api.Program{Tmpls: []api.Template{b, a, b}}, lineB+lineA+lineB)
	checkShow(t, api.Program{Rules: []api.Rule{r}}, lineR)
	checkShow(t, api.Program{Rules: []api.Rule{r, s}}, lineR+lineS)
	checkShow(t, api.Program{Rules: []api.Rule{s, r, s}}, lineS+lineR+lineS)
	checkShow(t, api.Program{Tmpls: []api.Template{b, a}, Rules: []api.Rule{s, r}}, lineB+lineA+lineS+lineR)
	checkShow(t, api.Program{Tmpls: slices.Repeat([]api.Template{a}, 1000), Rules: slices.Repeat([]api.Rule{s}, 1000)}, times(lineA, 1000)+times(lineS, 1000))
	for _, text := range []string{lineR + lineA + lineB + lineS, lineA + lineR + lineB + lineS, lineR + lineS + lineA + lineB, lineA + lineB + lineR + lineS, lineR + lineA + lineS + lineB} {
		p, _, err := parse.Parse(text)
		if err != api.OK {
			t.Fatalf("%s: got %d", text, err)
		}
		checkShow(t, p, lineA+lineB+lineR+lineS)
	}
}

// P12.1 (L1): templates of no, one and many slots, of each type, and of types that are none.
func TestTemplates(t *testing.T) {
	shown := func(tmpl api.Template, want string) {
		t.Helper()
		checkShow(t, api.Program{Tmpls: []api.Template{tmpl}}, want+"\n")
	}
	shown(api.Template{}, "( template  )")
	shown(api.Template{Name: "a"}, "( template a )")
	shown(api.Template{Name: "a", Slots: []api.Field{}}, "( template a )")
	for kind, s := range []string{api.Num: "num", api.Text: "text", api.Sym: "sym", api.Bool: "bool"} {
		if kind != 0 {
			shown(api.Template{Name: "a", Slots: []api.Field{{Name: "x", Type: kind}}}, "( template a ( x "+s+" ) )")
		}
	}
	for _, kind := range []int{0, -1, -4, api.Id, api.Set, 7, 100, 256, 257, 1 << 16, 1<<32 + 1, math.MaxInt, math.MinInt} {
		shown(api.Template{Name: "a", Slots: []api.Field{{Name: "x", Type: kind}}}, "( template a ( x none ) )")
	}
	shown(api.Template{Name: "a", Slots: []api.Field{{Name: "x", Type: 4}, {Name: "y", Type: 0}, {Name: "x", Type: 1}}}, "( template a ( x bool ) ( y none ) ( x num ) )")
	shown(api.Template{Name: "a", Slots: []api.Field{{}}}, "( template a (  none ) )")
	for _, s := range anyNames() {
		shown(api.Template{Name: s, Slots: []api.Field{{Name: s, Type: api.Sym}}}, "( template "+s+" ( "+s+" sym ) )")
	}
	shown(api.Template{Name: "a", Slots: slices.Repeat([]api.Field{{Name: "x", Type: api.Text}}, 5000)}, "( template a"+times(" ( x text )", 5000)+" )")
}

// P12.1 (L1): rules of no, one and many conditions and actions, of any name.
func TestRules(t *testing.T) {
	pat, halt := halted(), api.Act{Kind: api.ActHalt}
	checkRule(t, api.Rule{}, "( rule  0 ( ) ( ) )")
	checkRule(t, api.Rule{Name: "r", Conds: []api.Cond{}, Acts: []api.Act{}}, "( rule r 0 ( ) ( ) )")
	checkRule(t, api.Rule{Name: "r", Conds: []api.Cond{pat}}, "( rule r 0 ( ( halt ) ) ( ) )")
	checkRule(t, api.Rule{Name: "r", Acts: []api.Act{halt}}, "( rule r 0 ( ) ( ( halt ) ) )")
	checkRule(t, api.Rule{Name: "r", Salience: 7, Conds: []api.Cond{pat, {Kind: api.CondNot}}, Acts: []api.Act{halt, {Kind: api.ActPrint}, halt}}, "( rule r 7 ( ( halt ) ( not (  ) ) ) ( ( halt ) ( print none ) ( halt ) ) )")
	checkRule(t, api.Rule{Name: "r", Conds: slices.Repeat([]api.Cond{pat}, 2000), Acts: slices.Repeat([]api.Act{halt}, 3000)}, "( rule r 0 ("+times(" ( halt )", 2000)+" ) ("+times(" ( halt )", 3000)+" ) )")
	for _, s := range anyNames() {
		checkRule(t, api.Rule{Name: s}, "( rule "+s+" 0 ( ) ( ) )")
	}
}

// P12.1 (L1): saliences, also such as are none of a rule that is parsed.
func TestSaliences(t *testing.T) {
	for n, want := range map[int]string{
		0: "0", 1: "1", -1: "-1", 9: "9", 10: "10", -10: "-10", 1000: "1000", -1000: "-1000", 1001: "1001", -1001: "-1001",
		math.MaxInt32: "2147483647", math.MinInt32: "-2147483648", 1 << 32: "4294967296",
		math.MaxInt64: "9223372036854775807", math.MinInt64: "-9223372036854775808", math.MinInt64 + 1: "-9223372036854775807",
	} {
		checkRule(t, api.Rule{Name: "r", Salience: n}, "( rule r "+want+" ( ) ( ) )")
	}
}

// P12.1 (L1): terms of a variable, of any name, whatever value stands beside it.
func TestVariables(t *testing.T) {
	for _, s := range anyNames() {
		if s == "" {
			continue
		}
		for _, v := range []api.Value{{}, of(api.Num, "1"), of(api.Num, "01"), of(api.Set, "{"), of(9, "x")} {
			checkTerm(t, api.Term{Var: s, V: v}, "?"+s)
		}
	}
}

// P12.1 (L1): terms of a value of each kind; one that is not right is written as nothing.
func TestValues(t *testing.T) {
	checkTerm(t, api.Term{}, "none")
	for _, s := range []string{"0", "-3/2", "7", times("9", 300), "-1/" + times("9", 297)} {
		checkTerm(t, api.Term{V: of(api.Num, s)}, s)
	}
	for _, s := range []string{"", " ", "a b", "(halt)  ?x", "'", "\\n", "none", times("~", 100)} {
		checkTerm(t, api.Term{V: of(api.Text, s)}, `"`+s+`"`)
	}
	for _, s := range names() {
		checkTerm(t, api.Term{V: of(api.Sym, s)}, "'"+s)
	}
	checkTerm(t, api.Term{V: of(api.Bool, "true")}, "true")
	checkTerm(t, api.Term{V: of(api.Bool, "false")}, "false")
	checkTerm(t, api.Term{V: of(api.Id, "7")}, "#7")
	checkTerm(t, api.Term{V: of(api.Id, "999999999")}, "#999999999")
	checkTerm(t, api.Term{V: of(api.Set, "")}, "{}")
	checkTerm(t, api.Term{V: of(api.Set, `none, 1, "a, b", 'red`)}, `{none, 1, "a, b", 'red}`)
	for _, v := range wrongValues() {
		checkTerm(t, api.Term{V: v}, "")
	}
	is(t, show.Expr(two("+", api.Expr{T: api.Term{V: of(api.Num, "x")}}, api.Expr{T: api.Term{V: of(-1, "")}})), "( +   )")
}

// wrongValues is values of each kind that are not right.
func wrongValues() []api.Value {
	return []api.Value{
		of(api.None, "none"), of(api.None, " "), of(api.Num, ""), of(api.Num, "01"), of(api.Num, "2/4"), of(api.Num, times("9", 301)), of(api.Num, "x"),
		of(api.Text, `"`), of(api.Text, "\n"), of(api.Text, "é"), of(api.Text, times("a", 101)), of(api.Sym, ""), of(api.Sym, "A"), of(api.Sym, times("a", 25)),
		of(api.Bool, ""), of(api.Bool, "True"), of(api.Id, ""), of(api.Id, "-1"), of(api.Id, "007"), of(api.Id, "1000000000"), of(api.Set, "1,2"), of(api.Set, "2, 1"), of(api.Set, "{}"),
		of(-1, ""), of(7, ""), of(7, "1"), of(math.MaxInt, "x"), of(math.MinInt, "x"),
	}
}

// P12.1 (L1): expressions of each operation, and of ones that are none, with as many as there are.
func TestExpressions(t *testing.T) {
	one, x := num("1"), named("x")
	for _, op := range []string{"+", "-", "*", "/", "<", "<=", "=", "!=", "(", ")", "a", "A b", "?", " ", "\n", "\x00", "é", times("+", 1000)} {
		checkExpr(t, api.Expr{Op: op}, "( "+op+" )")
		checkExpr(t, api.Expr{Op: op, L: []api.Expr{}}, "( "+op+" )")
		checkExpr(t, api.Expr{Op: op, L: []api.Expr{one}}, "( "+op+" 1 )")
		checkExpr(t, two(op, one, x), "( "+op+" 1 ?x )")
		checkExpr(t, api.Expr{Op: op, L: []api.Expr{x, one, x}}, "( "+op+" ?x 1 ?x )")
		checkExpr(t, two(op, two("*", one, x), two("/", x, one)), "( "+op+" ( * 1 ?x ) ( / ?x 1 ) )")
		// What is a term besides, or has expressions besides, is not shown.
		checkExpr(t, api.Expr{Op: op, T: api.Term{Var: "y"}, L: []api.Expr{one, x}}, "( "+op+" 1 ?x )")
		checkExpr(t, api.Expr{Op: op, T: api.Term{Var: "y", V: of(api.Num, "2")}}, "( "+op+" )")
		checkExpr(t, api.Expr{T: api.Term{Var: "y"}, L: []api.Expr{two(op, one, x)}}, "?y")
		checkExpr(t, api.Expr{L: []api.Expr{one, two(op, one, x), x}}, "none")
	}
	checkExpr(t, api.Expr{T: api.Term{V: of(api.Num, "x")}, L: []api.Expr{one}}, "")
	checkExpr(t, two("-", api.Expr{T: api.Term{Var: "y"}, L: []api.Expr{one, one}}, one), "( - ?y 1 )")
	checkExpr(t, two("+", api.Expr{Op: "*", L: []api.Expr{one}}, api.Expr{Op: "/"}), "( + ( * 1 ) ( / ) )")
}

// P12.1 (L1): expressions deep in one another, at the left, at the right and between others, and wide ones.
func TestDeepExpressions(t *testing.T) {
	for _, n := range []int{1, 2, 5, 6, 7, 100, 3000} {
		left, right, between := num("1"), num("1"), num("1")
		for range n {
			left, right, between = two("+", left, num("2")), two("/", named("x"), right), api.Expr{Op: "-", L: []api.Expr{num("3"), between, named("y")}}
		}
		checkExpr(t, left, times("( + ", n)+"1"+times(" 2 )", n))
		checkExpr(t, right, times("( / ?x ", n)+"1"+times(" )", n))
		checkExpr(t, between, times("( - 3 ", n)+"1"+times(" ?y )", n))
	}
	both, want := num("1"), "1"
	for range 12 {
		both, want = two("*", both, both), "( * "+want+" "+want+" )"
	}
	checkExpr(t, both, want)
	checkExpr(t, api.Expr{Op: "+", L: slices.Repeat([]api.Expr{num("1"), two("-", named("x"), num("2"))}, 20000)}, "( +"+times(" 1 ( - ?x 2 )", 20000)+" )")
}

// P12.1, P1: a very deep expression, and a very wide one, are shown whole, and told from others.
func TestVeryDeepExpressions(t *testing.T) {
	const n = 600000
	left, wide := num("1"), api.Expr{Op: "+", L: slices.Repeat([]api.Expr{{Op: "-"}}, n)}
	for range n {
		left = api.Expr{Op: "+", L: []api.Expr{left}}
	}
	is(t, show.Expr(left), times("( + ", n)+"1"+times(" )", n))
	is(t, show.Expr(wide), "( +"+times(" ( - )", n)+" )")
	if p := printing(left); !show.Same(p, p) || show.Same(p, printing(left.L[0])) {
		t.Error("a very deep expression is not the same as itself, or is as what is in it")
	}
	if p := printing(wide); !show.Same(p, p) || show.Same(p, printing(api.Expr{Op: "+", L: wide.L[1:]})) {
		t.Error("a very wide expression is not the same as itself, or is as a narrower one")
	}
}

// printing is a program that prints an expression.
func printing(e api.Expr) api.Program {
	return api.Program{Rules: []api.Rule{{Acts: []api.Act{{Kind: api.ActPrint, E: e}}}}}
}
