package show_test

import (
	"math"
	"slices"
	"testing"

	"tribunal/api"
	"tribunal/show"
)

// noKinds is numbers of which there is no kind of conditions, nor of actions, but for the last one of these.
func noKinds() []int {
	return []int{0, -1, -2, -3, -4, -5, 6, 7, 100, 256, 257, 260, 1 << 16, 1<<32 + 1, 1<<32 + 4, math.MaxInt, math.MinInt, math.MinInt + 1}
}

// fullCond is a condition with all that any kind has.
func fullCond() api.Cond {
	return api.Cond{
		As: "f", Pat: api.Pat{Tmpl: "a", Slots: []api.Slot{{Name: "x", T: api.Term{Var: "v"}}, {Name: "y", T: api.Term{V: of(api.Sym, "red")}}}},
		Op: "<", A: two("+", num("1"), named("v")), B: named("w"),
		Var: "s", Fold: "sum", Arg: "v", By: []string{"b", "c"}, Over: []api.Cond{halted(), {Kind: api.CondNot, Pat: api.Pat{Tmpl: "b"}}},
	}
}

// P12.1 (L1): of each kind what it has is shown, and what it has not is not.
func TestFullConditions(t *testing.T) {
	c := fullCond()
	shown := func(kind int, want string) {
		t.Helper()
		c.Kind = kind
		checkCond(t, c, want)
	}
	pat := "( a ( x ?v ) ( y 'red ) )"
	shown(api.CondPat, "( as ?f "+pat+" )")
	shown(api.CondNot, "( not "+pat+" )")
	shown(api.CondIf, "( if < ( + 1 ?v ) ?w )")
	shown(api.CondLet, "( let ?s sum ?v ( ?b ?c ) ( ( halt ) ( not ( b ) ) ) )")
	c.As = ""
	shown(api.CondPat, pat)
	shown(api.CondNot, "( not "+pat+" )")
	for _, kind := range append(noKinds(), 5) {
		shown(kind, "( )")
	}
}

// P12.1 (L1): conditions that have as little as may be.
func TestBareConditions(t *testing.T) {
	checkCond(t, api.Cond{}, "( )")
	checkCond(t, api.Cond{Kind: api.CondPat}, "(  )")
	checkCond(t, api.Cond{Kind: api.CondPat, As: "f"}, "( as ?f (  ) )")
	checkCond(t, api.Cond{Kind: api.CondNot}, "( not (  ) )")
	checkCond(t, api.Cond{Kind: api.CondIf}, "( if  none none )")
	checkCond(t, api.Cond{Kind: api.CondLet}, "( let ?  ? ( ) ( ) )")
	checkCond(t, api.Cond{Kind: api.CondPat, Pat: api.Pat{Tmpl: "a", Slots: []api.Slot{}}}, "( a )")
	checkCond(t, api.Cond{Kind: api.CondPat, Pat: api.Pat{Tmpl: "a", Slots: []api.Slot{{}}}}, "( a (  none ) )")
	checkCond(t, api.Cond{Kind: api.CondLet, By: []string{}, Over: []api.Cond{}}, "( let ?  ? ( ) ( ) )")
	checkCond(t, api.Cond{Kind: api.CondLet, By: []string{""}, Over: []api.Cond{{}}}, "( let ?  ? ( ? ) ( ( ) ) )")
}

// P12.1 (L1): patterns of any name, with As and without, and absences, of no, one and many slots.
func TestPatterns(t *testing.T) {
	for _, s := range anyNames() {
		p := api.Pat{Tmpl: s, Slots: []api.Slot{{Name: s, T: api.Term{Var: "x"}}}}
		checkCond(t, api.Cond{Kind: api.CondPat, Pat: p}, "( "+s+" ( "+s+" ?x ) )")
		checkCond(t, api.Cond{Kind: api.CondPat, As: "f", Pat: p}, "( as ?f ( "+s+" ( "+s+" ?x ) ) )")
		checkCond(t, api.Cond{Kind: api.CondNot, Pat: p}, "( not ( "+s+" ( "+s+" ?x ) ) )")
		checkCond(t, api.Cond{Kind: api.CondPat, Pat: api.Pat{Tmpl: s}}, "( "+s+" )")
		if s != "" {
			checkCond(t, api.Cond{Kind: api.CondPat, As: s, Pat: api.Pat{Tmpl: "not"}}, "( as ?"+s+" ( not ) )")
		}
	}
	many := api.Pat{Tmpl: "a", Slots: slices.Repeat([]api.Slot{{Name: "x", T: api.Term{Var: "y"}}, {Name: "z"}}, 1000)}
	want := "( a" + times(" ( x ?y ) ( z none )", 1000) + " )"
	checkCond(t, api.Cond{Kind: api.CondPat, Pat: many}, want)
	checkCond(t, api.Cond{Kind: api.CondPat, As: "f", Pat: many}, "( as ?f "+want+" )")
	checkCond(t, api.Cond{Kind: api.CondNot, Pat: many}, "( not "+want+" )")
}

// P12.1 (L1): tests, of each sign, and of others.
func TestTests(t *testing.T) {
	for _, op := range []string{"<", "<=", ">", ">=", "=", "!=", "+", "", "==", "a", "(", " ", "\n"} {
		checkCond(t, api.Cond{Kind: api.CondIf, Op: op, A: num("1"), B: named("x")}, "( if "+op+" 1 ?x )")
		checkCond(t, api.Cond{Kind: api.CondIf, Op: op, A: two("-", named("x"), num("2")), B: two("*", num("3"), num("4"))}, "( if "+op+" ( - ?x 2 ) ( * 3 4 ) )")
	}
}

// P12.1 (L1): folds of any name, of no, one and many variables and conditions.
func TestLets(t *testing.T) {
	let := api.Cond{Kind: api.CondLet, Var: "s", Fold: "sum", Arg: "x"}
	shown := func(by []string, over []api.Cond, want string) {
		t.Helper()
		let.By, let.Over = by, over
		checkCond(t, let, "( let ?s sum ?x "+want+" )")
	}
	pat, not := halted(), api.Cond{Kind: api.CondNot, Pat: api.Pat{Tmpl: "b"}}
	shown(nil, nil, "( ) ( )")
	shown([]string{"y"}, nil, "( ?y ) ( )")
	shown([]string{"z", "y", "z"}, nil, "( ?z ?y ?z ) ( )")
	shown(nil, []api.Cond{pat}, "( ) ( ( halt ) )")
	shown(nil, []api.Cond{pat, not, pat}, "( ) ( ( halt ) ( not ( b ) ) ( halt ) )")
	shown([]string{"y", "z"}, []api.Cond{not, pat}, "( ?y ?z ) ( ( not ( b ) ) ( halt ) )")
	shown(slices.Repeat([]string{"y"}, 3000), slices.Repeat([]api.Cond{pat}, 2000), "("+times(" ?y", 3000)+" ) ("+times(" ( halt )", 2000)+" )")
	for _, s := range anyNames() {
		checkCond(t, api.Cond{Kind: api.CondLet, Var: s, Fold: "count", Arg: "x"}, "( let ?"+s+" count ?x ( ) ( ) )")
		checkCond(t, api.Cond{Kind: api.CondLet, Var: "n", Fold: s, Arg: "x"}, "( let ?n "+s+" ?x ( ) ( ) )")
		checkCond(t, api.Cond{Kind: api.CondLet, Var: "n", Fold: "count", Arg: s}, "( let ?n count ?"+s+" ( ) ( ) )")
		checkCond(t, api.Cond{Kind: api.CondLet, Var: "n", Fold: "count", Arg: "x", By: []string{s, "y", s}}, "( let ?n count ?x ( ?"+s+" ?y ?"+s+" ) ( ) )")
	}
}

// P12.1 (L1): folds over folds, and over what stands beside these.
func TestLetsInLets(t *testing.T) {
	let := func(over ...api.Cond) api.Cond {
		return api.Cond{Kind: api.CondLet, Var: "s", Fold: "sum", Arg: "x", Over: over}
	}
	checkCond(t, let(let()), "( let ?s sum ?x ( ) ( ( let ?s sum ?x ( ) ( ) ) ) )")
	checkCond(t, let(let(), halted(), let(halted())), "( let ?s sum ?x ( ) ( ( let ?s sum ?x ( ) ( ) ) ( halt ) ( let ?s sum ?x ( ) ( ( halt ) ) ) ) )")
	// What stands in a condition of another kind is not shown.
	checkCond(t, let(api.Cond{Kind: api.CondNot, Pat: api.Pat{Tmpl: "a"}, Over: []api.Cond{let()}}), "( let ?s sum ?x ( ) ( ( not ( a ) ) ) )")
	for _, n := range []int{1, 6, 7, 1000} {
		first, last := let(), let()
		for range n {
			first, last = let(first, halted()), let(halted(), last)
		}
		checkCond(t, first, times("( let ?s sum ?x ( ) ( ", n)+"( let ?s sum ?x ( ) ( ) )"+times(" ( halt ) ) )", n))
		checkCond(t, last, times("( let ?s sum ?x ( ) ( ( halt ) ", n)+"( let ?s sum ?x ( ) ( ) )"+times(" ) )", n))
	}
}

// P12.1, P1: folds very deep in one another are shown whole, and told from others.
func TestVeryDeepLets(t *testing.T) {
	const n = 300000
	c := api.Cond{Kind: api.CondNot, Pat: api.Pat{Tmpl: "a"}}
	for range n {
		c = api.Cond{Kind: api.CondLet, Over: []api.Cond{c}}
	}
	is(t, show.Cond(c), times("( let ?  ? ( ) ( ", n)+"( not ( a ) )"+times(" ) )", n))
	with := func(c api.Cond) api.Program { return api.Program{Rules: []api.Rule{{Conds: []api.Cond{c}}}} }
	if !show.Same(with(c), with(c)) || show.Same(with(c), with(c.Over[0])) {
		t.Error("very deep folds are not the same as themselves, or are as those in them")
	}
}

// P12.1 (L1): of each kind of action what it has is shown, and what it has not is not.
func TestFullActions(t *testing.T) {
	a := api.Act{Tmpl: "a", Var: "f", Fills: []api.Fill{{Name: "x", E: two("+", num("1"), named("v"))}, {Name: "y", E: num("2")}}, E: two("*", named("w"), num("3"))}
	shown := func(kind int, want string) {
		t.Helper()
		a.Kind = kind
		checkAct(t, a, want)
	}
	shown(api.ActAssert, "( assert a ( x ( + 1 ?v ) ) ( y 2 ) )")
	shown(api.ActRetract, "( retract ?f )")
	shown(api.ActModify, "( modify ?f ( x ( + 1 ?v ) ) ( y 2 ) )")
	shown(api.ActPrint, "( print ( * ?w 3 ) )")
	shown(api.ActHalt, "( halt )")
	for _, kind := range noKinds() {
		shown(kind, "( )")
	}
}

// P12.1 (L1): actions that have as little as may be.
func TestBareActions(t *testing.T) {
	checkAct(t, api.Act{}, "( )")
	checkAct(t, api.Act{Kind: api.ActAssert}, "( assert  )")
	checkAct(t, api.Act{Kind: api.ActRetract}, "( retract ? )")
	checkAct(t, api.Act{Kind: api.ActModify}, "( modify ? )")
	checkAct(t, api.Act{Kind: api.ActPrint}, "( print none )")
	checkAct(t, api.Act{Kind: api.ActHalt}, "( halt )")
	for _, fills := range [][]api.Fill{nil, {}} {
		checkAct(t, api.Act{Kind: api.ActAssert, Tmpl: "a", Fills: fills}, "( assert a )")
		checkAct(t, api.Act{Kind: api.ActModify, Var: "f", Fills: fills}, "( modify ?f )")
	}
	checkAct(t, api.Act{Kind: api.ActAssert, Fills: []api.Fill{{}}}, "( assert  (  none ) )")
	checkAct(t, api.Act{Kind: api.ActModify, Fills: []api.Fill{{}}}, "( modify ? (  none ) )")
}

// P12.1 (L1): actions of any names, of one and many slots.
func TestActions(t *testing.T) {
	for _, s := range anyNames() {
		fill := []api.Fill{{Name: s, E: num("1")}}
		checkAct(t, api.Act{Kind: api.ActAssert, Tmpl: s}, "( assert "+s+" )")
		checkAct(t, api.Act{Kind: api.ActAssert, Tmpl: "a", Fills: fill}, "( assert a ( "+s+" 1 ) )")
		checkAct(t, api.Act{Kind: api.ActModify, Var: s}, "( modify ?"+s+" )")
		checkAct(t, api.Act{Kind: api.ActModify, Var: "f", Fills: fill}, "( modify ?f ( "+s+" 1 ) )")
		checkAct(t, api.Act{Kind: api.ActRetract, Var: s}, "( retract ?"+s+" )")
	}
	fills := slices.Repeat([]api.Fill{{Name: "x", E: named("y")}, {Name: "z", E: two("/", num("1"), num("0"))}}, 1000)
	checkAct(t, api.Act{Kind: api.ActAssert, Tmpl: "a", Fills: fills}, "( assert a"+times(" ( x ?y ) ( z ( / 1 0 ) )", 1000)+" )")
	checkAct(t, api.Act{Kind: api.ActModify, Var: "f", Fills: fills}, "( modify ?f"+times(" ( x ?y ) ( z ( / 1 0 ) )", 1000)+" )")
}
