package check_test

import (
	"slices"
	"strings"
	"testing"

	"tribunal/api"
)

// P13.1 (M2): a right action of each kind, with ahead known, and with nothing.
func TestActs(t *testing.T) {
	for text, alone := range map[string]api.Errno{
		"(assert e)": api.OK, "(assert a (n 1) (t \"\") (s 'x) (b true))": api.OK, "(assert a (n ?n) (t ?t) (s ?s) (b ?b))": api.ErrNone, "(assert one (n ?s))": api.ErrNone,
		"(retract ?f)": api.ErrNone, "(retract ?g)": api.ErrNone, "(modify ?f)": api.ErrNone, "(modify ?f (n (+ ?n 1)))": api.ErrNone, "(modify ?g (m 1) (s 'x) (n ?m))": api.ErrNone,
		"(print 1)": api.OK, "(print ?n)": api.ErrNone, "(print none)": api.OK, "(print (/ 1 0))": api.OK, "(halt)": api.OK,
	} {
		doing(t, aheadKnown, text, api.OK)
		doing(t, "", text, alone)
	}
}

// eachAct is a right action of each kind, by the kinds, where ahead is known.
func eachAct(t testing.TB) []api.Act {
	return deeds(t, "(assert one (n 'x)) (retract ?f) (modify ?f (n 1)) (print ?n) (halt)")
}

// P13.1 (M2): an action of a kind that there is not, with nothing in it, and with all that a kind has.
func TestNoActKind(t *testing.T) {
	for _, kind := range []int{0, -1, -5, 6, 7, 100, most, least, 1<<32 + 1, 1<<8 + 5, -1 << 32} {
		for _, a := range append(eachAct(t), api.Act{}) {
			a.Kind = kind
			doingOf(t, untold(aheadKnown), a, api.ErrForm)
			doingOf(t, nil, a, api.ErrForm)
		}
	}
}

// actFilling is things that may stand in an action's parts, one at a time, by the parts.
func actFilling() map[string][]func(*api.Act) {
	l := map[string][]func(*api.Act){
		"Tmpl":  {func(a *api.Act) { a.Tmpl = "e" }, func(a *api.Act) { a.Tmpl = "one" }, func(a *api.Act) { a.Tmpl = "?" }},
		"Var":   {func(a *api.Act) { a.Var = "f" }, func(a *api.Act) { a.Var = "q" }, func(a *api.Act) { a.Var = " " }},
		"Fills": {func(a *api.Act) { a.Fills = []api.Fill{{}} }, func(a *api.Act) { a.Fills = []api.Fill{{Name: "n", E: val(api.Num, "1")}} }},
	}
	for _, e := range []api.Expr{at("n"), val(api.Num, "0"), val(api.Text, ""), {T: api.Term{V: of(api.None, "a")}}, {T: api.Term{V: of(-1, "")}}, {Op: "+"}, {L: []api.Expr{{}}}, op("+", val(api.Num, "1"), val(api.Num, "2"))} {
		l["E"] = append(l["E"], func(a *api.Act) { a.E = e })
	}
	return l
}

// P13.1 (M2): each thing that is no part of an action's kind is wrong, be it the only thing that is, or not; empty lists are not.
func TestNoActParts(t *testing.T) {
	own := [][]string{{"Tmpl", "Fills"}, {"Var"}, {"Var", "Fills"}, {"E"}, {}}
	for i, right := range eachAct(t) {
		doingOf(t, untold(aheadKnown), right, api.OK)
		for name, fills := range actFilling() {
			if slices.Contains(own[i], name) {
				continue
			}
			for _, fill := range fills {
				a, bare := right, api.Act{Kind: right.Kind}
				fill(&a)
				fill(&bare)
				doingOf(t, untold(aheadKnown), a, api.ErrForm)
				doingOf(t, nil, a, api.ErrForm)
				doingOf(t, untold(aheadKnown), bare, api.ErrForm)
			}
		}
		a := right
		if len(a.Fills) == 0 {
			a.Fills = []api.Fill{}
		}
		if a.Kind != api.ActPrint {
			a.E.L = make([]api.Expr, 0, 2)
		}
		doingOf(t, untold(aheadKnown), a, api.OK)
	}
}

// P13.1 (M2): assert of a template that there is not, whatever is filled.
func TestAssertNoTemplate(t *testing.T) {
	for _, name := range append(noNames(), "", "b", "aa", "f", "true") {
		for _, fills := range [][]api.Fill{nil, {{Name: "n", E: val(api.Num, "1")}}, {{Name: "n"}, {Name: "n"}}, {{Name: "n", E: at("Q")}}} {
			doingOf(t, untold(aheadKnown), api.Act{Kind: api.ActAssert, Tmpl: name, Fills: fills}, api.ErrNone)
		}
	}
}

// orderings is all orders of a list.
func orderings[T any](l []T) [][]T {
	if len(l) == 0 {
		return [][]T{nil}
	}
	var all [][]T
	for i := range l {
		rest := slices.Concat(l[:i], l[i+1:])
		for _, o := range orderings(rest) {
			all = append(all, append([]T{l[i]}, o...))
		}
	}
	return all
}

// P13.1 (M2): assert fills each slot once, in any order: not one left out, one twice, nor one that is none.
func TestAssertSlots(t *testing.T) {
	fills := []string{"(n 1)", "(t \"\")", "(s 'x)", "(b true)"}
	for _, order := range orderings(fills) {
		doing(t, "", "(assert a "+strings.Join(order, "")+")", api.OK)
		for i := range order {
			without := strings.Join(slices.Concat(order[:i], order[i+1:]), "")
			doing(t, "", "(assert a "+without+")", api.ErrArg)
			doing(t, "", "(assert a "+without+"(zz 1))", api.ErrArg)
			doing(t, "", "(assert a (m 1)"+without+")", api.ErrArg)
			doing(t, "", "(assert a "+strings.Join(order, "")+order[i]+")", api.ErrArg)
			for j, other := range order {
				if j != i {
					twice := slices.Clone(order)
					twice[i] = other
					doing(t, "", "(assert a "+strings.Join(twice, "")+")", api.ErrArg)
				}
			}
		}
		doing(t, "", "(assert a "+strings.Join(order, "")+"(zz 1))", api.ErrArg)
	}
	for text, err := range map[string]api.Errno{
		"(assert e)": api.OK, "(assert e (n 1))": api.ErrArg, "(assert a)": api.ErrArg, "(assert one)": api.ErrArg, "(assert one (n 'x))": api.OK, "(assert one (n 'x) (n 'x))": api.ErrArg, "(assert one (s 'x))": api.ErrArg, "(assert c (n 1) (m 2) (s 'x))": api.OK, "(assert c (n 1) (n 2) (s 'x))": api.ErrArg,
	} {
		doing(t, "", text, err)
	}
	for _, name := range append(noNames(), "") {
		doingOf(t, nil, api.Act{Kind: api.ActAssert, Tmpl: "one", Fills: []api.Fill{{Name: name, E: val(api.Sym, "x")}}}, api.ErrArg)
	}
	doingOf(t, nil, api.Act{Kind: api.ActAssert, Tmpl: "one", Fills: make([]api.Fill, 100000)}, api.ErrArg)
}

// filled is an assert of a, or a modify of one of its facts, with another expression for a slot.
func filled(t *testing.T, text string, place int, e api.Expr) api.Act {
	a := deeds(t, text)[0]
	a.Fills[place].E = e
	return a
}

// fillings is actions in which expressions stand for slots of type num, text, sym and bool, in this order.
func fillings() []string {
	return []string{"(assert a (n 1) (t \"\") (s 'x) (b true))", "(modify ?f (n 1) (t \"\") (s 'x) (b true))"}
}

// P13.1 (M2): an expression of each type, a value, a variable or an operation, at a slot of each type.
func TestTypesOfFills(t *testing.T) {
	for kind, some := range sides() {
		for _, e := range some {
			for _, text := range fillings() {
				for place := range 4 {
					want := api.ErrType
					if kind == place+1 {
						want = api.OK
					}
					doingOf(t, untold(aheadKnown), filled(t, text, place, e), want)
				}
			}
		}
	}
}

// P13.1 (M2): an expression that is wrong, at each slot, beside right ones and another one that is wrong: the first one's error is told, and what is wrong with slots ahead of it.
func TestErrorsOfFills(t *testing.T) {
	l := untold(aheadKnown)
	for err, some := range faulty() {
		for _, bad := range some {
			for _, text := range fillings() {
				for place := range 4 {
					a := filled(t, text, place, bad)
					doingOf(t, l, a, err)
					a.Fills[(place+2)%4].Name = "zz"
					doingOf(t, l, a, api.ErrArg)
					a.Fills[(place+2)%4].Name = a.Fills[place].Name
					doingOf(t, l, a, api.ErrArg)
				}
				for other, more := range faulty() {
					a := filled(t, text, 1, bad)
					a.Fills[2].E = more[0]
					doingOf(t, l, a, err)
					a.Fills[0].E = more[len(more)-1]
					doingOf(t, l, a, other)
					a.Fills[0].E = val(api.Sym, "x")
					doingOf(t, l, a, api.ErrType)
				}
			}
		}
	}
}

// P13.1 (M2): variables of expressions are those that are known, of the types that are known.
func TestFillsOfVariables(t *testing.T) {
	for _, text := range []string{"(assert one (n ?x))", "(modify ?x (n ?x))", "(print ?x)", "(print (+ 1 ?x))", "(retract ?x)"} {
		for _, others := range []string{"", "y sym", "y sym, z num", "xx sym", "v num, w id a"} {
			doing(t, others, text, api.ErrNone)
		}
	}
	for kind, err := range map[string]api.Errno{"x sym": api.OK, "x num": api.ErrType, "x id a": api.ErrType, "x set": api.ErrType, "x text": api.ErrType, "x bool": api.ErrType, "y sym": api.ErrNone} {
		doing(t, kind, "(assert one (n ?x))", err)
		doing(t, "f id one, "+kind, "(modify ?f (n ?x))", err)
		doing(t, kind+", f id one", "(modify ?f (n ?x))", err)
	}
}

// P13.1 (M2): retract and modify are of a variable that is known, and is a fact's number.
func TestFactVariables(t *testing.T) {
	for _, text := range []string{"(retract ?x)", "(modify ?x)", "(modify ?x (n 1))", "(modify ?x (zz 1))", "(modify ?x (n 1) (n 1))", "(modify ?x (n ?q))", "(modify ?x (n 'x))"} {
		for _, l := range []string{"", "y id a", "y num, z id a"} {
			doing(t, l, text, api.ErrNone)
		}
		for _, kind := range []string{"num", "text", "sym", "bool", "set"} {
			doing(t, "x "+kind, text, api.ErrType)
			doing(t, "f id a, x "+kind, text, api.ErrType)
		}
	}
	for _, tmpl := range []string{"a", "c", "d", "e", "one"} {
		doing(t, "y num, x id "+tmpl, "(retract ?x) (modify ?x)", api.OK)
	}
	for _, kind := range []int{api.ActRetract, api.ActModify} {
		for _, name := range append(noNames(), "") {
			doingOf(t, untold(aheadKnown), api.Act{Kind: kind, Var: name}, api.ErrNone)
		}
	}
}

// P13.1 (M2): modify of none, one and many slots of the fact's template, each at most once.
func TestModifySlots(t *testing.T) {
	l := "f id a, g id c, h id one, i id e"
	for text, err := range map[string]api.Errno{
		"(modify ?f)": api.OK, "(modify ?f (s 'x))": api.OK, "(modify ?f (b true) (n 1))": api.OK, "(modify ?f (b true) (n 1) (s 'x) (t \"\"))": api.OK, "(modify ?g (m 1))": api.OK, "(modify ?h (n 'x))": api.OK, "(modify ?i)": api.OK,
		"(modify ?f (m 1))": api.ErrArg, "(modify ?g (t \"\"))": api.ErrArg, "(modify ?h (s 'x))": api.ErrArg, "(modify ?i (n 1))": api.ErrArg, "(modify ?f (n 1) (m 1))": api.ErrArg, "(modify ?f (zz 1) (n 1))": api.ErrArg,
		"(modify ?f (n 1) (n 1))": api.ErrArg, "(modify ?f (n 1) (n 2))": api.ErrArg, "(modify ?f (n 1) (s 'x) (n 1))": api.ErrArg, "(modify ?g (m 1) (s 'x) (n 2) (m 1))": api.ErrArg, "(modify ?f (n 1) (t \"\") (s 'x) (b true) (n 1))": api.ErrArg,
		"(modify ?h (n 1))": api.ErrType, "(modify ?f (n 'x))": api.ErrType, "(modify ?f (n 'x) (zz 1))": api.ErrArg, "(modify ?f (n ?q) (n 1))": api.ErrArg, "(modify ?f (s 'x) (n ?f))": api.ErrType,
	} {
		doing(t, l, text, err)
	}
	for _, name := range append(noNames(), "") {
		doingOf(t, untold(l), api.Act{Kind: api.ActModify, Var: "f", Fills: []api.Fill{{Name: name, E: val(api.Num, "1")}}}, api.ErrArg)
	}
	doingOf(t, untold(l), api.Act{Kind: api.ActModify, Var: "f", Fills: make([]api.Fill, 100000)}, api.ErrArg)
	doingOf(t, []api.Known{{Name: "f", Type: api.Id, Tmpl: "zz"}}, api.Act{Kind: api.ActModify, Var: "f", Fills: []api.Fill{{Name: "n", E: val(api.Num, "1")}}}, api.ErrArg)
}

// P13.1 (M2): print of each type, and of what is wrong.
func TestPrint(t *testing.T) {
	for _, some := range sides() {
		for _, e := range some {
			doingOf(t, untold(aheadKnown), api.Act{Kind: api.ActPrint, E: e}, api.OK)
		}
	}
	for err, some := range faulty() {
		for _, e := range some {
			doingOf(t, untold(aheadKnown), api.Act{Kind: api.ActPrint, E: e}, err)
		}
	}
}
