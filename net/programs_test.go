package net_test

import (
	"fmt"
	"slices"
	"strings"
	"testing"

	"tribunal/api"
	"tribunal/check"
	"tribunal/net"
)

// wrong is a program that may not be, by one of check's errors.
type wrong struct {
	p   api.Program
	err api.Errno
}

// wrongTemplates is those whose templates are wrong.
func wrongTemplates(t testing.TB) []wrong {
	right := program(t, "(p (a ?x))")
	with := func(l ...api.Template) api.Program {
		return api.Program{Tmpls: append(copied(right.Tmpls), l...), Rules: right.Rules}
	}
	l := []wrong{{with(make([]api.Template, 12)...), api.ErrTooMany}, {with(api.Template{Name: "p"}), api.ErrThere}, {with(right.Tmpls...), api.ErrThere}}
	for _, name := range []string{"", "not", "as", "if", "let", "true", "none", "P", "a b", "9", strings.Repeat("a", 25)} {
		l = append(l, wrong{with(api.Template{Name: name}), api.ErrForm})
	}
	for _, f := range []api.Field{{}, {Name: "n"}, {Name: "n", Type: 5}, {Name: "n", Type: 6}, {Name: "n", Type: -1}, {Name: "true", Type: 1}, {Name: "N", Type: 1}} {
		l = append(l, wrong{with(api.Template{Name: "z", Slots: []api.Field{f}}), api.ErrForm})
	}
	return append(l, wrong{with(api.Template{Name: "z", Slots: make([]api.Field, 9)}), api.ErrForm})
}

// wrongRules is rules that are wrong: by their names and saliences, their conditions, and their actions.
func wrongRules(t testing.TB) []wrong {
	with := func(text string) api.Program { return parsed(t, templates+"(rule z 0 "+text+")") }
	rule := func(r api.Rule) api.Program { return api.Program{Tmpls: program(t).Tmpls, Rules: []api.Rule{r}} }
	l := []wrong{
		{rule(api.Rule{}), api.ErrForm}, {rule(api.Rule{Name: "true"}), api.ErrForm}, {rule(api.Rule{Name: "Z"}), api.ErrForm}, {rule(api.Rule{Name: "z", Salience: 1001}), api.ErrForm}, {rule(api.Rule{Name: "z", Salience: -1001}), api.ErrForm}, {rule(api.Rule{Name: "z", Salience: -1 << 63}), api.ErrForm},
		{with("((nothere)) ()"), api.ErrNone}, {with("((p (z 1))) ()"), api.ErrArg}, {with("((p (a 1) (a 1))) ()"), api.ErrArg}, {with("((p (a 'x))) ()"), api.ErrType}, {with("((p (a ?x)) (q (s ?x))) ()"), api.ErrType}, {with("((as ?f (p)) (as ?f (p))) ()"), api.ErrThere}, {with("(" + strings.Repeat("(e)", 13) + ") ()"), api.ErrTooMany},
		{with("((not (nothere))) ()"), api.ErrNone}, {with("((not (p (a ?x))) (if = ?x 1)) ()"), api.ErrNone}, {with("((if < 1 ?x)) ()"), api.ErrNone}, {with("((if = 1 'a)) ()"), api.ErrType}, {with("((if < 'a 'b)) ()"), api.ErrType},
		{with("((let ?n few ?x () ((p (a ?x))))) ()"), api.ErrNone}, {with("((let ?n count ?x () ())) ()"), api.ErrNone}, {with("((let ?n sum ?s () ((q (s ?s))))) ()"), api.ErrType}, {with("((let ?n count ?x (?x ?x) ((p (a ?x))))) ()"), api.ErrThere}, {with("((let ?x count ?x (?x) ((p (a ?x))))) ()"), api.ErrThere}, {with("((let ?n count ?x (?y) ((p (a ?x))))) ()"), api.ErrNone}, {with("(" + within(6, "(p (a ?x))") + ") ()"), api.ErrTooMany}, {with("((q (s ?y)) (let ?n count ?x (?y) ((p (a ?x) (b ?y))))) ()"), api.ErrType},
		{with("() ((print ?x))"), api.ErrNone}, {with("() ((assert p (a 1)))"), api.ErrArg}, {with("() ((assert nothere))"), api.ErrNone}, {with("((p (a ?x))) ((retract ?x))"), api.ErrType}, {with("() (" + strings.Repeat("(halt)", 13) + ")"), api.ErrTooMany}, {rule(api.Rule{Name: "z", Acts: []api.Act{{}}}), api.ErrForm},
		{with("() ()) (rule z 0 () ()"), api.ErrThere}, {api.Program{Tmpls: program(t).Tmpls, Rules: make([]api.Rule, 33)}, api.ErrTooMany},
	}
	for _, c := range []api.Cond{{}, {Kind: 5}, {Kind: -1}, {Kind: api.CondNot, As: "f", Pat: api.Pat{Tmpl: "p"}}, {Kind: api.CondPat, Pat: api.Pat{Tmpl: "p"}, Op: "<"}, {Kind: api.CondIf, Op: "=="}, {Kind: api.CondPat, Pat: api.Pat{Tmpl: "p"}, As: "F"}} {
		l = append(l, wrong{rule(api.Rule{Name: "z", Conds: []api.Cond{c}}), api.ErrForm})
	}
	return l
}

// within is a let in as many others as deep less 1; the innermost one is of those conditions, which make ?x known.
func within(deep int, inner string) string {
	s := "(let ?x count ?x () (" + inner + "))"
	for range deep - 1 {
		s = "(let ?x max ?x () (" + s + "))"
	}
	return s
}

// holding is programs in which a list stands in itself.
func holding(t testing.TB) []wrong {
	e := api.Expr{Op: "+", L: make([]api.Expr, 2)}
	e.L[0], e.L[1] = e, e
	over := conds(t, "(p (a ?x)) (let ?v count ?x () ((e)))")
	over[1].Over = over
	var l []wrong
	for _, r := range []api.Rule{{Conds: []api.Cond{{Kind: api.CondIf, Op: "<", A: e, B: e}}}, {Acts: []api.Act{{Kind: api.ActPrint, E: e}}}, {Conds: over}} {
		r.Name = "z"
		err := api.ErrForm
		if len(r.Conds) == 2 {
			err = api.ErrTooMany
		}
		l = append(l, wrong{api.Program{Tmpls: program(t).Tmpls, Rules: []api.Rule{r}}, err})
	}
	return l
}

// P19.1 (S1): New of a program that may not be, by whatever of check's errors, at whatever place, is nil.
func TestMayNotBe(t *testing.T) {
	count := map[api.Errno]int{}
	right := program(t, "", "(p (a ?x))", "(let ?n count ?x () ((p (a ?x)))) (if < ?n 2)")
	for i, w := range slices.Concat(wrongTemplates(t), wrongRules(t), holding(t)) {
		if err, _ := check.Check(w.p); err != w.err {
			t.Fatalf("%d: error %d, want %d", i, err, w.err)
		}
		if net.New(w.p) != nil {
			t.Errorf("%d: not nil", i)
		}
		for at := range len(right.Rules) + 1 {
			p := api.Program{Tmpls: w.p.Tmpls, Rules: slices.Insert(slices.Clone(right.Rules), at, w.p.Rules...)}
			if net.New(p) != nil {
				t.Errorf("%d, behind %d rules: not nil", i, at)
			}
		}
		count[w.err]++
	}
	for _, err := range []api.Errno{api.ErrArg, api.ErrTooMany, api.ErrNone, api.ErrThere, api.ErrForm, api.ErrType} {
		if count[err] == 0 {
			t.Errorf("error %d: none", err)
		}
	}
}

// P19.1 (S1): New of no program at all, of templates alone, and of rules alone.
func TestFewPrograms(t *testing.T) {
	for _, p := range []api.Program{{}, {Tmpls: []api.Template{}, Rules: []api.Rule{}}, program(t), {Tmpls: program(t).Tmpls, Rules: []api.Rule{}}} {
		b := of(t, p)
		for _, call := range []string{"+7 p 1 2", "+8 e", "+9 nothere", "+7 e", "-7", "-9", "-8"} {
			b.call(call)
		}
		if b.n.Nodes() != 1 {
			t.Errorf("%d nodes", b.n.Nodes())
		}
	}
	b := of(t, parsed(t, rules("", "(if < 1 2)", "(if > 1 2)")))
	b.tells(0, "").tells(1, "").tells(2)
	b.call("+1 p 1 2")
	b.call("-1")
}

// P19.1 (S1): Set of a place of no rule is nothing.
func TestSetPlaces(t *testing.T) {
	for _, many := range []int{0, 1, 2, 5, 32} {
		b := ofText(t, slices.Repeat([]string{"(p (a ?x))"}, many)...)
		for _, call := range []string{"+3 p 1 1", "+2 p 0 1", "-3"} {
			for _, place := range []int{-1, -2, many, many + 1, many + 77, 33, 1 << 31, 1 << 32, -1 << 32, 1<<63 - 1, -1 << 63, -1<<63 + 1} {
				if got := b.n.Set(place); len(got) > 0 {
					t.Errorf("%d of %d: got %s", place, many, lines(got))
				}
			}
			b.take(call)
			for place := range many {
				if len(b.n.Set(place)) == 0 {
					t.Errorf("%d of %d: nothing", place, many)
				}
			}
		}
	}
}

// none is what a fold tells of no values.
func none() map[string]string {
	return map[string]string{"count": "0", "sum": "0", "min": "none", "max": "none", "avg": "none", "set": "{}"}
}

func folds() []string { return []string{"count", "sum", "min", "max", "avg", "set"} }

// P19.1 (S1): what a new net tells: of no conditions one tuple of nothing (the document's example), of patterns nothing, of absences all, of tests of values as they hold.
func TestNewNet(t *testing.T) {
	for conds, want := range map[string][]string{
		"":           {""},
		"(p)":        nil,
		"(p (a ?x))": nil, "(as ?f (e))": nil,
		"(not (p))": {""}, "(not (p (a ?x) (b ?x)))": {""}, "(not (p)) (not (e)) (not (p (a 1)))": {""}, "(not (p)) (p)": nil,
		"(if < 1 2)": {""}, "(if < 2 1)": nil, "(if = 'a 'a)": {""}, "(if = 'a 'b)": nil, "(if != \"a\" \"b\")": {""}, "(if = true true)": {""}, "(if != true true)": nil, "(if < (/ 1 0) 1)": nil, "(if = (/ 1 0) (/ 1 0))": nil, "(if != (/ 1 0) 1)": nil, "(if >= (+ 1/2 1/2) 1) (if <= 0 0)": {""}, "(if > 1 0) (if > 0 1)": nil, "(if = none none)": {""}, "(if != none none)": nil,
		"(not (p)) (if < 1 2) (not (e))":                                                               {""},
		"(let ?n count ?x () ((p (a ?x)))) (if = ?n 0)":                                                {"n=0"},
		"(let ?n count ?x () ((p (a ?x)))) (if > ?n 0)":                                                nil,
		"(let ?n count ?x () ((p (a ?x)))) (not (q (a ?n)))":                                           {"n=0"},
		"(let ?n count ?x () ((p (a ?x)))) (let ?m sum ?n () ((let ?n count ?x () ((e) (p (a ?x))))))": {"m=0 n=0"},
		"(let ?n count ?x () ((let ?x count ?y () ((p (a ?y))))))":                                     {"n=1"},
		"(let ?n count ?x (?x) ((let ?x count ?y () ((p (a ?y))))))":                                   {"n=1 x=0"},
		"(let ?n sum ?x (?x) ((let ?x min ?y () ((p (a ?y))))))":                                       nil,
		"(let ?n max ?x (?x) ((let ?x min ?y () ((p (a ?y))))))":                                       {"n=none x=none"},
		"(let ?n count ?x () ((let ?x count ?y (?y) ((p (a ?y))))))":                                   {"n=0"},
		"(let ?n count ?x () ((let ?x count ?y () ((p (a ?y)))) (if > ?x 0)))":                         {"n=0"},
		within(5, "(p (a ?x))"):                                                                        {"x=0"},
	} {
		b := ofText(t, conds, conds+"(p)", conds+"(not (p))")
		b.tells(0, want...).tells(1).tells(2, want...)
		if got := b.n.Set(0); got == nil && len(want) > 0 {
			t.Errorf("%s: nothing", conds)
		}
	}
}

// P19.1 (S1): each of the six folds, of nothing: without keys it has its result of none, with keys it has none; behind one another in each order.
func TestFoldsOfNothing(t *testing.T) {
	for _, fold := range folds() {
		for over, inner := range map[string]string{"(p (a ?x))": "x", "(p (a ?x)) (not (q (a ?x)))": "x", "(e) (p (b ?x)) (if < ?x 1)": "x"} {
			ofText(t, fmt.Sprintf("(let ?n %s ?%s () (%s))", fold, inner, over)).tells(0, "n="+none()[fold])
			ofText(t, fmt.Sprintf("(let ?n %s ?%s (?x) (%s))", fold, inner, over)).tells(0)
		}
	}
	let := func(fold string, by string) string {
		return fmt.Sprintf("(let ?%s %s ?x (%s) ((p (a ?x))))", fold, fold, by)
	}
	const want = "avg=none count=0 max=none min=none set={} sum=0"
	for i, order := range permutations(6) {
		var all, keyed []string
		for k, at := range order {
			all = append(all, let(folds()[at], ""))
			by := ""
			if k == i%6 {
				by = "?x"
			}
			keyed = append(keyed, let(folds()[at], by))
		}
		b := ofText(t, strings.Join(all, ""), strings.Join(keyed, ""))
		b.tells(0, want).tells(1)
		if i%60 == 0 {
			b.call("+4 p 2 1", "-0 "+want, "+0 avg=2 count=1 max=2 min=2 set={2} sum=2", "+1 avg=2 count=1 max=2 min=2 set={2} sum=2 x=2")
			b.call("-4", "-0 avg=2 count=1 max=2 min=2 set={2} sum=2", "+0 "+want, "-1 avg=2 count=1 max=2 min=2 set={2} sum=2 x=2")
		}
	}
}

// permutations is all orders of n numbers from 0 on.
func permutations(n int) [][]int {
	if n == 0 {
		return [][]int{nil}
	}
	var l [][]int
	for _, p := range permutations(n - 1) {
		for i := range n {
			l = append(l, slices.Insert(slices.Clone(p), i, n-1))
		}
	}
	return l
}
