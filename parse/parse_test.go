package parse_test

import (
	"slices"
	"strconv"
	"testing"

	"tribunal/api"
)

// ofRule is a program of one rule.
func ofRule(r api.Rule) api.Program { return api.Program{Rules: []api.Rule{r}} }

// ofTemplate is a program of one template.
func ofTemplate(name string, l ...api.Field) api.Program {
	return api.Program{Tmpls: []api.Template{{Name: name, Slots: l}}}
}

// checkCond fails, unless that is a condition's text.
func checkCond(t *testing.T, s string, want api.Cond) {
	t.Helper()
	checkRight(t, "(rule r 0 ("+s+") ())", ofRule(api.Rule{Name: "r", Conds: []api.Cond{want}}))
	over := api.Cond{Kind: api.CondLet, Var: "v", Fold: "f", Arg: "a", Over: []api.Cond{want, want}}
	checkRight(t, "(rule r 0 ((let ?v f ?a () ("+s+s+"))) ())", ofRule(api.Rule{Name: "r", Conds: []api.Cond{over}}))
}

// checkNoCond fails, unless a text is no condition's, for what stands behind its mark.
func checkNoCond(t *testing.T, marked string) {
	t.Helper()
	checkWrong(t, "(rule r 0 ("+marked+") ())")
	checkWrong(t, "(rule r 0 ((a) (let ?v f ?a () ((b)"+marked+"))) ())")
}

// checkAct fails, unless that is an action's text.
func checkAct(t *testing.T, s string, want api.Act) {
	t.Helper()
	checkRight(t, "(rule r 0 () ("+s+"))", ofRule(api.Rule{Name: "r", Acts: []api.Act{want}}))
	checkRight(t, "(rule r 0 () ("+s+s+"(halt)))", ofRule(api.Rule{Name: "r", Acts: []api.Act{want, want, {Kind: api.ActHalt}}}))
}

// checkNoAct fails, unless a text is no action's, for what stands behind its mark.
func checkNoAct(t *testing.T, marked string) {
	t.Helper()
	checkWrong(t, "(rule r 0 () ("+marked+"))")
	checkWrong(t, "(rule r 0 () ((halt)"+marked+"(halt)))")
}

func num(s string) api.Expr { return api.Expr{T: api.Term{V: api.Value{Kind: api.Num, S: s}}} }

func named(s string) api.Expr { return api.Expr{T: api.Term{Var: s}} }

func two(op string, a, b api.Expr) api.Expr { return api.Expr{Op: op, L: []api.Expr{a, b}} }

// P11.1: a text of no tokens is that of a program of nothing.
func TestNothing(t *testing.T) {
	for _, s := range []string{"", " ", "\n", "\n\n", " \t\r\n ", times(" ", 8000), times("\n", 8000)} {
		checkRight(t, s, api.Program{})
	}
}

// P11.1: lex's error, and its place, are told, wherever it is wrong as a program.
func TestLexErrors(t *testing.T) {
	for _, s := range []string{"#", "6/4", `"open`, "?", "A", "{1}", "01", "-0", "2/1", "\x00", "é", "'", times("a", 25), times("9", 301)} {
		checkPlace(t, s, 0, api.ErrForm)
		checkPlace(t, "(rule a 0 () ()) \n"+s, 18, api.ErrForm)
		checkPlace(t, "(rule a 0 ( "+s, 12, api.ErrForm)
		checkPlace(t, ") not so "+s, 9, api.ErrForm)
		checkPlace(t, "(rule a b () ()) "+s, 17, api.ErrForm)
		checkPlace(t, s+` ) (rule a b ()) "`, 0, api.ErrForm)
	}
	checkPlace(t, times(" ", 8001), 8000, api.ErrTooMany)
	checkPlace(t, times("(", 8001), 8000, api.ErrTooMany)
	checkPlace(t, "#"+times(" ", 8000), 8000, api.ErrTooMany)
	checkPlace(t, times("#", 9000), 8000, api.ErrTooMany)
}

// P11.1: a text has at most 8000 bytes, blanks among them.
func TestLongest(t *testing.T) {
	s, halt := "(rule a 0 () ())", api.Rule{Name: "a"}
	checkRight(t, s+times(" ", 8000-len(s)), ofRule(halt))
	checkRight(t, times("\n", 8000-len(s))+s, ofRule(halt))
	checkPlace(t, s+times(" ", 8001-len(s)), 8000, api.ErrTooMany)
	checkPlace(t, times("\n", 8001-len(s))+s, 8000, api.ErrTooMany)
	checkPlace(t, times(" ", 7999)+")", 7999, api.ErrForm)
	checkPlace(t, times(" ", 7999)+"(", 8000, api.ErrForm)
	checkRight(t, times(s, 500), api.Program{Rules: slices.Repeat([]api.Rule{halt}, 500)})
	checkPlace(t, times(s, 500)+" ", 8000, api.ErrTooMany)
}

// P11.1: templates, of slots of each type.
func TestTemplates(t *testing.T) {
	checkRight(t, "(template a)", ofTemplate("a"))
	checkRight(t, "(template a (x num))", ofTemplate("a", api.Field{Name: "x", Type: api.Num}))
	checkRight(t, "(template a (x num) (y text) (z sym) (x bool))", ofTemplate("a",
		api.Field{Name: "x", Type: api.Num}, api.Field{Name: "y", Type: api.Text}, api.Field{Name: "z", Type: api.Sym}, api.Field{Name: "x", Type: api.Bool}))
	nine := slices.Repeat([]api.Field{{Name: "x", Type: api.Sym}}, 9)
	checkRight(t, "(template a"+times("(x sym)", 9)+")", ofTemplate("a", nine...))
	for _, s := range names() {
		checkRight(t, "(template "+s+" ("+s+" bool))", ofTemplate(s, api.Field{Name: s, Type: api.Bool}))
	}
	many := slices.Repeat([]api.Template{{Name: "a"}}, 20)
	checkRight(t, times("(template a)", 20), api.Program{Tmpls: many})
}

// P11.1: what is no template.
func TestNoTemplates(t *testing.T) {
	for _, s := range []string{
		"(template a (x ^color))", "(template a (x ^id))", "(template a (x ^none))", "(template a (x ^set))", "(template a (x ^nums))", "(template a (x ^template))",
		"(template a (x ^true))", "(template a (x ^?num))", "(template a (x ^'num))", `(template a (x ^"num"))`, "(template a (x ^1))", "(template a (x ^(num)))",
		"(template a (x ^))", "(template a (x num ^num))", "(template a (x num ^text))", "(template a (x num ^(text)))", "(template a (^))",
		"(template a (^?x num))", "(template a (^1 num))", "(template a (^'x num))", `(template a (^"x" num))`, "(template a (^true num))", "(template a (^none num))", "(template a (^+ num))", "(template a (^(x) num))",
		"(template a ^x num)", "(template a ^x)", "(template a ^?b)", "(template a ^0 () ())", "(template a ^+)", "(template a (x num) ^b)", "(template a (x num)) ^)",
		"(template ^)", "(template ^?a)", "(template ^1)", "(template ^true)", "(template ^false)", "(template ^none)", `(template ^"a")`, "(template ^'a)", "(template ^-)", "(template ^(a))",
		"(template a (x num)^", "(template a (x num^", "(template a (x^", "(template a (^", "(template a^", "(template^", "(^",
	} {
		checkWrong(t, s)
	}
}

// P11.1: saliences are whole, -1000 to 1000.
func TestSaliences(t *testing.T) {
	for _, n := range []int{0, 1, -1, 9, -10, 99, 100, 999, -999, 1000, -1000} {
		checkRight(t, "(rule a "+strconv.Itoa(n)+" () ())", ofRule(api.Rule{Name: "a", Salience: n}))
	}
	for _, s := range []string{
		"1001", "-1001", "9999", "10000", "-10000", "1/2", "-1/2", "2001/2", "a", `"0"`, `"1"`, "'a", "true", "false", "none", "?a", "-", "()", ")", "(",
		"+", "4294967296", "-4294967296", "4294967297", "9223372036854775807", "-9223372036854775808", "9223372036854775808", "18446744073709551616", "18446744073709551617", times("9", 300), "-" + times("1", 299),
	} {
		checkWrong(t, "(rule a ^"+s+" () ())")
	}
	for _, s := range []string{"^2/1", "^0/1", "^-0", "^00", "^01", "^-01", "^#1", "^{1}", "^{}", "1^.0", "^1e2", "1^_0", "^" + times("9", 301)} {
		checkWrong(t, "(rule a "+s+" () ())")
	}
}

// P11.1: rules, of as little as may be, of all at once, and what is none.
func TestRules(t *testing.T) {
	checkRight(t, "(rule a 0 () ())", ofRule(api.Rule{Name: "a"}))
	checkRight(t, "(rule rule 7 ((a)) ((halt)))", ofRule(api.Rule{Name: "rule", Salience: 7, Conds: []api.Cond{{Kind: api.CondPat, Pat: api.Pat{Tmpl: "a"}}}, Acts: []api.Act{{Kind: api.ActHalt}}}))
	pats := slices.Repeat([]api.Cond{{Kind: api.CondPat, Pat: api.Pat{Tmpl: "a"}}}, 13)
	acts := slices.Repeat([]api.Act{{Kind: api.ActHalt}}, 13)
	checkRight(t, "(rule a 0 ("+times("(a)", 13)+") ("+times("(halt)", 13)+"))", ofRule(api.Rule{Name: "a", Conds: pats, Acts: acts}))
	checkRight(t, times("(rule a 0 () ())", 33), api.Program{Rules: slices.Repeat([]api.Rule{{Name: "a"}}, 33)})
	for _, s := range names() {
		checkRight(t, "(rule "+s+" 0 () ())", ofRule(api.Rule{Name: s}))
	}
	for _, s := range []string{
		"(rule ^)", "(rule ^0 () ())", "(rule ^?a 0 () ())", "(rule ^true 0 () ())", "(rule ^false 0 () ())", "(rule ^none 0 () ())", "(rule ^'a 0 () ())", "(rule ^= 0 () ())", "(rule ^() 0 () ())",
		"(rule a ^b 0 () ())", "(rule a 0 ^0 () ())", "(rule a 0 ^)", "(rule a 0 () ^)", "(rule a 0 () () ^())", "(rule a 0 () () ^0)", "(rule a 0 () () ^b)", "(rule a 0 () ()) ^)",
		"(rule a 0 ^a ())", "(rule a 0 () ^a)", "(rule a 0 ^?a ())", "(rule a 0 (^a) ())", "(rule a 0 () (^halt))", "(rule a 0 (^?a) ())", "(rule a 0 (^1) ())", "(rule a 0 () (^?a))", "(rule a 0 () (^1))",
		"(rule a 0 ((halt)) ((^a)))", "(rule a 0 ((^(a))) ())", "(rule a 0 () ((^(halt))))", "(rule a 0 () ((^))", "(rule a 0 ((^)) ())", "(^rules a 0 () ())", "(^a)", "(^)", "(^?a)", "(^1)", "(^(rule a 0 () ()))", "(^true)", "(^+)", "(^as)", "(^halt)", "^a", "^rule a 0 () ()", "^)", "^1", "^?a", "^<", "^true",
		"(rule a 0 () ()^", "(rule a 0 () (^", "(rule a 0 ()^", "(rule a 0 (^", "(rule a 0^", "(rule a^", "(rule^", "(^",
	} {
		checkWrong(t, s)
	}
}
