package show_test

import (
	"fmt"
	"reflect"
	"strings"
	"testing"

	"tribunal/api"
	"tribunal/show"
	"tribunal/value"
)

// joined is what is told of each of a list, one behind the other.
func joined[T any](l []T, tell func(T) string) string {
	var s strings.Builder
	for _, one := range l {
		s.WriteString(tell(one))
	}
	return s.String()
}

// toldTerm, and those behind it, are what the calls have to answer; what stands in lists has its blank ahead of it.
func toldTerm(t api.Term) string {
	if t.Var == "" {
		return value.Show(t.V)
	}
	return "?" + t.Var
}

func toldExpr(e api.Expr) string {
	if e.Op == "" {
		return toldTerm(e.T)
	}
	return fmt.Sprintf("( %s%s )", e.Op, joined(e.L, func(e api.Expr) string { return " " + toldExpr(e) }))
}

func toldPat(p api.Pat) string {
	return fmt.Sprintf("( %s%s )", p.Tmpl, joined(p.Slots, func(s api.Slot) string { return fmt.Sprintf(" ( %s %s )", s.Name, toldTerm(s.T)) }))
}

func toldConds(l []api.Cond) string {
	return "(" + joined(l, func(c api.Cond) string { return " " + toldCond(c) }) + " )"
}

func toldCond(c api.Cond) string {
	switch c.Kind {
	case 1:
		if c.As != "" {
			return fmt.Sprintf("( as ?%s %s )", c.As, toldPat(c.Pat))
		}
		return toldPat(c.Pat)
	case 2:
		return fmt.Sprintf("( not %s )", toldPat(c.Pat))
	case 3:
		return fmt.Sprintf("( if %s %s %s )", c.Op, toldExpr(c.A), toldExpr(c.B))
	case 4:
		by := joined(c.By, func(s string) string { return " ?" + s })
		return fmt.Sprintf("( let ?%s %s ?%s (%s ) %s )", c.Var, c.Fold, c.Arg, by, toldConds(c.Over))
	}
	return "( )"
}

func toldAct(a api.Act) string {
	fills := joined(a.Fills, func(f api.Fill) string { return fmt.Sprintf(" ( %s %s )", f.Name, toldExpr(f.E)) })
	switch a.Kind {
	case 1:
		return fmt.Sprintf("( assert %s%s )", a.Tmpl, fills)
	case 2:
		return fmt.Sprintf("( retract ?%s )", a.Var)
	case 3:
		return fmt.Sprintf("( modify ?%s%s )", a.Var, fills)
	case 4:
		return fmt.Sprintf("( print %s )", toldExpr(a.E))
	case 5:
		return "( halt )"
	}
	return "( )"
}

func toldRule(r api.Rule) string {
	acts := joined(r.Acts, func(a api.Act) string { return " " + toldAct(a) })
	return fmt.Sprintf("( rule %s %d %s (%s ) )", r.Name, r.Salience, toldConds(r.Conds), acts)
}

func toldTemplate(t api.Template) string {
	types := map[int]string{1: "num", 2: "text", 3: "sym", 4: "bool"}
	return fmt.Sprintf("( template %s%s )", t.Name, joined(t.Slots, func(f api.Field) string {
		if types[f.Type] == "" {
			return fmt.Sprintf(" ( %s none )", f.Name)
		}
		return fmt.Sprintf(" ( %s %s )", f.Name, types[f.Type])
	}))
}

func told(p api.Program) string {
	return joined(p.Tmpls, func(t api.Template) string { return toldTemplate(t) + "\n" }) + joined(p.Rules, func(r api.Rule) string { return toldRule(r) + "\n" })
}

// same tells whether both are the same in all, empty lists and none being the same.
func same(a, b any) bool { return sameIn(reflect.ValueOf(a), reflect.ValueOf(b)) }

func sameIn(a, b reflect.Value) bool {
	switch a.Kind() {
	case reflect.Struct:
		for i := range a.NumField() {
			if !sameIn(a.Field(i), b.Field(i)) {
				return false
			}
		}
		return true
	case reflect.Slice:
		for i := range min(a.Len(), b.Len()) {
			if !sameIn(a.Index(i), b.Index(i)) {
				return false
			}
		}
		return a.Len() == b.Len()
	}
	return a.Equal(b)
}

// brief is a text, or how a thing is told, cut if it is long.
func brief(a any) string {
	s := fmt.Sprintf("%+v", a)
	if len(s) > 600 {
		return s[:300] + ".." + s[len(s)-298:]
	}
	return s
}

// is fails, unless a call told what is wanted.
func is(t *testing.T, got, want string) {
	t.Helper()
	if got != want {
		t.Fatalf("got %s, want %s", brief(got), brief(want))
	}
}

// checkExpr fails, unless an expression's text is what is wanted, alone and wherever expressions stand.
func checkExpr(t *testing.T, e api.Expr, want string) {
	t.Helper()
	is(t, show.Expr(e), want)
	is(t, toldExpr(e), want)
	is(t, show.Expr(two("-", e, named("x"))), "( - "+want+" ?x )")
	is(t, show.Expr(two("/", named("x"), e)), "( / ?x "+want+" )")
	is(t, show.Cond(api.Cond{Kind: api.CondIf, Op: "<", A: e, B: named("y")}), "( if < "+want+" ?y )")
	is(t, show.Cond(api.Cond{Kind: api.CondIf, Op: "!=", A: named("y"), B: e}), "( if != ?y "+want+" )")
	is(t, show.Act(api.Act{Kind: api.ActPrint, E: e}), "( print "+want+" )")
	fills := []api.Fill{{Name: "b", E: e}, {Name: "c", E: named("z")}}
	is(t, show.Act(api.Act{Kind: api.ActAssert, Tmpl: "a", Fills: fills}), "( assert a ( b "+want+" ) ( c ?z ) )")
	is(t, show.Act(api.Act{Kind: api.ActModify, Var: "f", Fills: fills}), "( modify ?f ( b "+want+" ) ( c ?z ) )")
}

// checkTerm fails, unless a term's text is what is wanted, wherever terms stand.
func checkTerm(t *testing.T, term api.Term, want string) {
	t.Helper()
	checkExpr(t, api.Expr{T: term}, want)
	slots := []api.Slot{{Name: "b", T: term}, {Name: "c", T: api.Term{Var: "z"}}}
	checkCond(t, api.Cond{Kind: api.CondPat, Pat: api.Pat{Tmpl: "a", Slots: slots}}, "( a ( b "+want+" ) ( c ?z ) )")
	checkCond(t, api.Cond{Kind: api.CondNot, Pat: api.Pat{Tmpl: "a", Slots: slots}}, "( not ( a ( b "+want+" ) ( c ?z ) ) )")
}

// checkCond fails, unless a condition's text is what is wanted, alone, in a rule and in another one.
func checkCond(t *testing.T, c api.Cond, want string) {
	t.Helper()
	is(t, show.Cond(c), want)
	is(t, toldCond(c), want)
	is(t, show.Rule(api.Rule{Name: "r", Conds: []api.Cond{c}}), "( rule r 0 ( "+want+" ) ( ) )")
	is(t, show.Rule(api.Rule{Name: "r", Conds: []api.Cond{c, halted(), c}}), "( rule r 0 ( "+want+" ( halt ) "+want+" ) ( ) )")
	in := api.Cond{Kind: api.CondLet, Var: "v", Fold: "sum", Arg: "x", Over: []api.Cond{c, halted()}}
	is(t, show.Cond(in), "( let ?v sum ?x ( ) ( "+want+" ( halt ) ) )")
}

// checkAct fails, unless an action's text is what is wanted, alone and in a rule.
func checkAct(t *testing.T, a api.Act, want string) {
	t.Helper()
	is(t, show.Act(a), want)
	is(t, toldAct(a), want)
	is(t, show.Rule(api.Rule{Name: "r", Acts: []api.Act{a}}), "( rule r 0 ( ) ( "+want+" ) )")
	is(t, show.Rule(api.Rule{Name: "r", Acts: []api.Act{a, {Kind: api.ActHalt}, a}}), "( rule r 0 ( ) ( "+want+" ( halt ) "+want+" ) )")
}

// checkRule fails, unless a rule's text is what is wanted, alone and in a program.
func checkRule(t *testing.T, r api.Rule, want string) {
	t.Helper()
	is(t, show.Rule(r), want)
	checkShow(t, api.Program{Rules: []api.Rule{r}}, want+"\n")
	checkShow(t, api.Program{Tmpls: []api.Template{{Name: "a"}}, Rules: []api.Rule{r, r}}, "( template a )\n"+want+"\n"+want+"\n")
}

// checkShow fails, unless a program's text is what is wanted.
func checkShow(t *testing.T, p api.Program, want string) {
	t.Helper()
	is(t, show.Show(p), want)
	is(t, told(p), want)
}

// halted is a pattern of a template named halt.
func halted() api.Cond { return api.Cond{Kind: api.CondPat, Pat: api.Pat{Tmpl: "halt"}} }

// two is what an operation has of two expressions.
func two(op string, a, b api.Expr) api.Expr { return api.Expr{Op: op, L: []api.Expr{a, b}} }

func named(s string) api.Expr { return api.Expr{T: api.Term{Var: s}} }

func num(s string) api.Expr { return api.Expr{T: api.Term{V: of(api.Num, s)}} }

func of(kind int, s string) api.Value { return api.Value{Kind: kind, S: s} }

// times is s, n times.
func times(s string, n int) string { return strings.Repeat(s, n) }
