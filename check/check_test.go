package check_test

import (
	"slices"
	"strconv"
	"strings"
	"testing"

	"tribunal/api"
)

// program is one of the templates of few, and of rules of a text.
func program(t testing.TB, rules string) api.Program {
	t.Helper()
	return parsed(t, fewText+rules)
}

// many is n rules, each of another name: r0, r1, and so on.
func many(n int) []api.Rule {
	l := make([]api.Rule, n)
	for i := range l {
		l[i].Name = "r" + strconv.Itoa(i)
	}
	return l
}

// P13.1 (M3): no program, templates alone, rules alone.
func TestPrograms(t *testing.T) {
	checked(t, api.Program{}, api.OK, 0)
	checked(t, api.Program{Tmpls: []api.Template{}, Rules: []api.Rule{}}, api.OK, 0)
	checked(t, api.Program{Tmpls: few(t)}, api.OK, 0)
	checked(t, program(t, ""), api.OK, 0)
	checked(t, parsed(t, "(rule r 0 () ())"), api.OK, 0)
	checked(t, parsed(t, "(rule r 0 ((let ?v count ?x () ())) ())"), api.ErrNone, 0)
	checked(t, parsed(t, "(rule r 0 () ((print 1) (halt))) (rule s 0 ((if < 1 2)) ())"), api.OK, 0)
	checked(t, parsed(t, "(rule r 0 () ()) (rule s 0 ((a)) ())"), api.ErrNone, 1)
	checked(t, program(t, "(rule r 0 ((a (n ?x)) (as ?f (c (m ?x))) (let ?v sum ?y () ((d (n ?y)))) (if < ?x ?v)) ((retract ?f) (assert one (n 'done)) (print (- ?v ?x)) (halt)))"), api.OK, 0)
}

// templateFaults is templates of which one is wrong, by the errors, and that one's place.
func templateFaults(t testing.TB) map[api.Errno][][]api.Template {
	l := map[api.Errno][][]api.Template{}
	for _, name := range append(noNames(), "", "as", "not", "if", "let", "true", "false", "none") {
		l[api.ErrForm] = append(l[api.ErrForm], []api.Template{{Name: "x"}, {Name: name}})
	}
	l[api.ErrForm] = append(l[api.ErrForm], []api.Template{{Name: "x"}, {Name: "y", Slots: []api.Field{{Name: "n", Type: api.Id}}}, {Name: "x"}})
	l[api.ErrThere] = [][]api.Template{{{Name: "a"}, {Name: "a"}, {Name: "not"}}, {{Name: "x"}, few(t)[0], few(t)[0]}, append(few(t), few(t)...)}
	l[api.ErrTooMany] = [][]api.Template{make([]api.Template, 17), slices.Repeat(few(t), 4)}
	return l
}

// P13.1 (M3): schema's errors, and their places, ahead of every rule's, and of there being too many.
func TestTemplatesAhead(t *testing.T) {
	for err, all := range templateFaults(t) {
		for _, l := range all {
			_, place := templates(l)
			for _, rules := range [][]api.Rule{nil, many(1), many(32), many(33), make([]api.Rule, 1), make([]api.Rule, 1000), parsed(t, "(rule r 0 ((zz)) ((retract ?q)))").Rules, append(many(1), many(1)...)} {
				checked(t, api.Program{Tmpls: l, Rules: rules}, err, place)
			}
		}
	}
	checked(t, api.Program{Tmpls: slices.Repeat([]api.Template{{Name: "a"}}, 16)}, api.ErrThere, 1)
	checked(t, api.Program{Tmpls: make([]api.Template, 16)}, api.ErrForm, 0)
}

// P13.1 (M3): as many rules as there may be, and more, with an error in one of them, too.
func TestHowManyRules(t *testing.T) {
	for n := range 33 {
		checked(t, api.Program{Rules: many(n)}, api.OK, 0)
	}
	for _, n := range []int{33, 34, 64, 1000, 100000} {
		checked(t, api.Program{Rules: many(n)}, api.ErrTooMany, 32)
		checked(t, api.Program{Tmpls: few(t), Rules: make([]api.Rule, n)}, api.ErrTooMany, 32)
	}
	for i := range 33 {
		for _, r := range wrongRules(t) {
			rules := many(33)
			rules[i] = r.rule
			checked(t, api.Program{Tmpls: few(t), Rules: rules}, api.ErrTooMany, 32)
			if i < 32 {
				checked(t, api.Program{Tmpls: few(t), Rules: rules[:32]}, r.err, i)
			}
		}
	}
}

// wrongRule is a rule that may not be, and its error.
type wrongRule struct {
	rule api.Rule
	err  api.Errno
}

// wrongRules is one of each error, and more.
func wrongRules(t testing.TB) []wrongRule {
	rule := func(text string) api.Rule { return parsed(t, "(rule zz 0 "+text+")").Rules[0] }
	return []wrongRule{
		{api.Rule{}, api.ErrForm}, {api.Rule{Name: "none"}, api.ErrForm}, {api.Rule{Name: "zz", Salience: 1001}, api.ErrForm},
		{rule("((q)) ()"), api.ErrNone}, {rule("((a (q 1))) ()"), api.ErrArg}, {rule("((a (n 'x))) ()"), api.ErrType}, {rule("((as ?f (a (n ?f)))) ()"), api.ErrThere}, {rule("(" + times("(e)", 13) + ") ()"), api.ErrTooMany}, {api.Rule{Name: "zz", Conds: []api.Cond{{}}}, api.ErrForm},
		{rule("() (" + times("(halt)", 13) + ")"), api.ErrTooMany}, {rule("() ((print ?x))"), api.ErrNone}, {rule("() ((assert one))"), api.ErrArg}, {rule("() ((assert one (n 1)))"), api.ErrType}, {api.Rule{Name: "zz", Acts: []api.Act{{}}}, api.ErrForm},
		{rule("((a (n ?x))) ((retract ?x))"), api.ErrType}, {rule("((not (as (x ?x))))  ()"), api.ErrNone}, {rule("((let ?v count ?x () ((as ?f (a (n ?x)))))) ((retract ?f))"), api.ErrNone},
	}
}

// P13.1 (M3): of each one of many rules its error, with its place: the first one's, whatever is wrong with those behind.
func TestEachRule(t *testing.T) {
	right := program(t, "(rule a 5 ((a (n ?x))) ((print ?x))) (rule b -5 ((as ?f (one))) ((retract ?f))) (rule c 0 () ()) (rule d 1000 ((not (e))) ((assert e) (halt))) (rule e -1000 ((let ?x max ?y (?z) ((c (n ?y) (s ?z))))) ((print ?z)))")
	checked(t, right, api.OK, 0)
	for i := range right.Rules {
		for _, r := range wrongRules(t) {
			p := copied(right)
			p.Rules[i] = r.rule
			checked(t, p, r.err, i)
			for j := range p.Rules[i+1:] {
				for _, other := range wrongRules(t) {
					q := copied(p)
					q.Rules[i+1+j] = other.rule
					checked(t, q, r.err, i)
				}
			}
		}
	}
}

// P13.1 (M3): a rule's name is a name, and none of three words; it may be what a template's may not, a template's, and a variable's.
func TestRuleNames(t *testing.T) {
	rest := parsed(t, "(rule q 3 ((a (n ?x))) ((print ?x)))").Rules[0]
	for _, name := range append(names(), "assert", "a", "x", "e", "nonee", "tru", "truee", "fals", "false1", "non") {
		want := api.OK
		if slices.Contains([]string{"true", "false", "none"}, name) {
			want = api.ErrForm
		}
		rest.Name = name
		checked(t, api.Program{Tmpls: few(t), Rules: []api.Rule{rest}}, want, 0)
	}
	for _, name := range append(noNames(), "", "True", "NONE", "rule r") {
		rest.Name = name
		checked(t, api.Program{Tmpls: few(t), Rules: []api.Rule{rest}}, api.ErrForm, 0)
		checked(t, api.Program{Tmpls: few(t), Rules: append(many(3), rest, rest)}, api.ErrForm, 3)
		checked(t, api.Program{Rules: []api.Rule{{Name: name, Salience: 9999, Conds: make([]api.Cond, 13), Acts: make([]api.Act, 13)}}}, api.ErrForm, 0)
	}
}

// P13.1 (M3): a salience is -1000 to 1000; one that is not is wrong ahead of the name being there already, and of all conditions and actions.
func TestSaliences(t *testing.T) {
	for n, want := range map[int]api.Errno{
		0: api.OK, 1: api.OK, -1: api.OK, 999: api.OK, -999: api.OK, 1000: api.OK, -1000: api.OK,
		1001: api.ErrForm, -1001: api.ErrForm, 1002: api.ErrForm, 1 << 31: api.ErrForm, -1 << 31: api.ErrForm, 1 << 32: api.ErrForm, 1<<32 + 5: api.ErrForm, 1<<16 + 1: api.ErrForm, most: api.ErrForm, most - 1: api.ErrForm, least: api.ErrForm, least + 1: api.ErrForm, least + 1000: api.ErrForm,
	} {
		checked(t, api.Program{Rules: []api.Rule{{Name: "r", Salience: n}}}, want, 0)
		if want == api.OK {
			checked(t, api.Program{Rules: []api.Rule{{Name: "r", Salience: n}, {Name: "s", Salience: n}}}, api.OK, 0)
			continue
		}
		for _, r := range append(wrongRules(t), wrongRule{rule: api.Rule{Name: "r0"}}) {
			r.rule.Salience = n
			checked(t, api.Program{Tmpls: few(t), Rules: append(many(2), r.rule)}, api.ErrForm, 2)
		}
	}
}

// P13.1 (M3): no two rules have one name, side by side or apart; that is told ahead of their conditions and actions.
func TestRulesAlike(t *testing.T) {
	for _, n := range []int{2, 3, 7, 32} {
		for j := range n {
			for i := range j {
				p := api.Program{Tmpls: few(t), Rules: many(n)}
				p.Rules[j].Name = p.Rules[i].Name
				checked(t, p, api.ErrThere, j)
				p.Rules[j].Conds, p.Rules[j].Acts = []api.Cond{{}}, []api.Act{{}}
				checked(t, p, api.ErrThere, j)
				p.Rules[j].Conds, p.Rules[j].Acts = make([]api.Cond, 13), make([]api.Act, 13)
				checked(t, p, api.ErrThere, j)
				p.Rules[i].Acts = []api.Act{{}}
				checked(t, p, api.ErrForm, i)
			}
		}
	}
}

// P13.1 (M3): 12 actions, and more; that there are too many is told ahead of what is wrong with them, and behind the conditions' error.
func TestHowManyActs(t *testing.T) {
	for n := range 20 {
		want, place := api.OK, 0
		if n > 12 {
			want, place = api.ErrTooMany, 1
		}
		for _, conds := range []string{"", "(e)", times("(e)", 12)} {
			checked(t, program(t, "(rule a 0 () ()) (rule r 0 ("+conds+") ("+times("(halt)", n)+"))"), want, place)
		}
		if n > 12 {
			checked(t, program(t, "(rule r 0 () ("+times("(retract ?q)", n)+"))"), api.ErrTooMany, 0)
			checked(t, program(t, "(rule r 0 ((a (q 1))) ("+times("(halt)", n)+"))"), api.ErrArg, 0)
		}
	}
	checked(t, api.Program{Rules: []api.Rule{{Name: "r", Acts: make([]api.Act, 100000)}}}, api.ErrTooMany, 0)
}

// P13.1 (M3): with an error in conditions and in actions both, the conditions' is told; of two actions' the first one's.
func TestFirstOfRule(t *testing.T) {
	conds := map[api.Errno]string{api.ErrNone: "(q)", api.ErrArg: "(a (q 1))", api.ErrType: "(a (n 'x))", api.ErrThere: "(as ?f (a (n ?f)))", api.ErrTooMany: times("(e)", 13)}
	acts := map[api.Errno]string{api.ErrNone: "(retract ?q)", api.ErrArg: "(assert one)", api.ErrType: "(assert one (n 1))"}
	for err, text := range conds {
		for _, act := range acts {
			checked(t, program(t, "(rule r 0 ("+text+") ("+act+"))"), err, 0)
			checked(t, program(t, "(rule q 0 ((e)) ()) (rule r 0 ("+text+") ((halt)"+act+"))"), err, 1)
		}
	}
	for err, first := range acts {
		for _, second := range acts {
			for place := range 6 {
				l := slices.Repeat([]string{"(halt)"}, 6)
				l[place] = first + second
				checked(t, program(t, "(rule q 0 ((e)) ()) (rule r 0 ((e)) ("+strings.Join(l, "")+"))"), err, 1)
			}
		}
	}
}

// P13.1 (M3): what is known in one rule is not known in another one; rules may know the same names, of other types.
func TestRulesAlone(t *testing.T) {
	first := "(rule a 0 ((as ?f (a (n ?x))) (let ?v set ?y () ((one (n ?y))))) ((retract ?f)))"
	for _, second := range []string{"() ((retract ?f))", "() ((print ?x))", "() ((modify ?f))", "((if = ?x 1)) ()", "((if != ?v ?v)) ()", "() ((assert one (n ?y)))"} {
		checked(t, program(t, first+"(rule b 0 "+second+")"), api.ErrNone, 1)
		checked(t, program(t, "(rule b 0 "+second+")"+first), api.ErrNone, 0)
	}
	checked(t, program(t, first+"(rule b 0 ((a (t ?f) (s ?x) (b ?v))) ((assert one (n ?x)))) (rule c 0 ((as ?x (e))) ((retract ?x)))"), api.OK, 0)
}

// P13.1 (M3): actions know what is known behind all conditions: not what a not makes known, or what is known in a let alone.
func TestActsBehindConds(t *testing.T) {
	for _, acts := range []string{"(print ?x)", "(assert a (n ?x) (t \"\") (s 'x) (b true))", "(halt) (print (+ 1 ?x))"} {
		checked(t, program(t, "(rule r 0 ((a (n ?x))) ("+acts+"))"), api.OK, 0)
		checked(t, program(t, "(rule r 0 ((let ?v count ?x (?x) ((a (n ?x))))) ("+acts+"))"), api.OK, 0)
		for _, conds := range []string{"", "(e)", "(not (a (n ?x)))", "(let ?v count ?x () ((a (n ?x))))", "(a (n ?y))"} {
			checked(t, program(t, "(rule r 0 ("+conds+") ("+acts+"))"), api.ErrNone, 0)
		}
	}
	checked(t, program(t, "(rule r 0 ((let ?f max ?g () ((as ?g (c))))) ((modify ?f (m 1)) (retract ?f)))"), api.OK, 0)
	checked(t, program(t, "(rule r 0 ((let ?f max ?g () ((as ?g (c))))) ((modify ?f (b true))))"), api.ErrArg, 0)
	checked(t, program(t, "(rule r 0 ((let ?f count ?g () ((as ?g (c))))) ((modify ?f (m 1))))"), api.ErrType, 0)
}
