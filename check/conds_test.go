package check_test

import (
	"testing"

	"tribunal/api"
)

// P13.1 (M1): the document's example, at both sides, alone and behind what makes it known.
func TestExample(t *testing.T) {
	wrong(t, "(if < ?x 1)", api.ErrNone)
	wrong(t, "(if = 1 ?x)", api.ErrNone)
	known(t, "(a (n ?x)) (if < ?x 1) (if = 1 ?x)", "x num")
	wrong(t, "(a (n ?x)) (if < ?y 1)", api.ErrNone)
}

// P13.1 (M1): none, one, 12 and 13 conditions, and more, whatever is wrong with them.
func TestHowMany(t *testing.T) {
	knownOf(t, nil, "")
	knownOf(t, []api.Cond{}, "")
	known(t, "(e)", "")
	known(t, "(a (n ?x))", "x num")
	for n := range 13 {
		known(t, times("(e)", n), "")
	}
	for _, n := range []int{13, 14, 24, 2000} {
		wrong(t, times("(e)", n), api.ErrTooMany)
	}
	wrongOf(t, make([]api.Cond, 100000), api.ErrTooMany)
	for i := range 12 {
		wrong(t, times("(e)", i)+"(zz)"+times("(e)", 13-i), api.ErrTooMany)
		wrong(t, times("(e)", i)+"(a (zz 1))"+times("(e)", 12-i), api.ErrTooMany)
		wrong(t, times("(e)", i)+"(a (zz 1))"+times("(e)", 11-i), api.ErrArg)
	}
	known(t, "(a (n ?x1)) (a (n ?x2)) (a (n ?x3)) (a (n ?x4)) (a (n ?x5)) (a (n ?x6)) (a (n ?x7)) (a (n ?x8)) (a (n ?x9)) (a (n ?y0)) (a (n ?y1)) (as ?f (a (n ?y2)))", "x1 num, x2 num, x3 num, x4 num, x5 num, x6 num, x7 num, x8 num, x9 num, y0 num, y1 num, y2 num, f id a")
}

// P13.1 (M1): a condition of a kind that there is not, alone, ahead of right ones and behind them, with nothing in it and with all that a kind has.
func TestNoKind(t *testing.T) {
	for _, kind := range []int{0, -1, -2, 5, 6, 7, 100, most, least, 1<<32 + 1, 1<<8 + 2, -1 << 32} {
		for _, c := range append(eachCond(t), api.Cond{}) {
			c.Kind = kind
			wrongOf(t, []api.Cond{c}, api.ErrForm)
			wrongOf(t, append(rows(t, "(e) (a (n ?q))"), c), api.ErrForm)
			wrongOf(t, append([]api.Cond{c}, rows(t, "(zz)")...), api.ErrForm)
			wrongOf(t, append(rows(t, "(zz)"), c), api.ErrNone)
			wrongOf(t, []api.Cond{{Kind: api.CondLet, Var: "v", Fold: "count", Arg: "x", Over: []api.Cond{c}}}, api.ErrForm)
		}
	}
}

// eachCond is a right condition of each kind, by the kinds.
func eachCond(t testing.TB) []api.Cond {
	return rows(t, "(as ?f (a (n ?x) (s 'red))) (not (a (n 1))) (if < 1 2) (let ?v sum ?y (?z) ((a (n ?y) (s ?z))))")
}

// filling is things that may stand in a condition's parts, one at a time, by the parts.
func filling() map[string][]func(*api.Cond) {
	slots := []api.Slot{{}}
	l := map[string][]func(*api.Cond){
		"As":   {func(c *api.Cond) { c.As = "g" }, func(c *api.Cond) { c.As = " " }},
		"Pat":  {func(c *api.Cond) { c.Pat.Tmpl = "e" }, func(c *api.Cond) { c.Pat.Tmpl = "?" }, func(c *api.Cond) { c.Pat.Slots = slots }, func(c *api.Cond) { c.Pat = api.Pat{Tmpl: "one", Slots: []api.Slot{{Name: "n", T: api.Term{Var: "x"}}}} }},
		"Op":   {func(c *api.Cond) { c.Op = "<" }, func(c *api.Cond) { c.Op = "?" }},
		"Var":  {func(c *api.Cond) { c.Var = "w" }, func(c *api.Cond) { c.Var = "W" }},
		"Fold": {func(c *api.Cond) { c.Fold = "count" }, func(c *api.Cond) { c.Fold = "few" }},
		"Arg":  {func(c *api.Cond) { c.Arg = "x" }, func(c *api.Cond) { c.Arg = "?" }},
		"By":   {func(c *api.Cond) { c.By = []string{""} }, func(c *api.Cond) { c.By = []string{"x", "y"} }},
		"Over": {func(c *api.Cond) { c.Over = []api.Cond{{}} }, func(c *api.Cond) { c.Over = []api.Cond{{Kind: api.CondPat, Pat: api.Pat{Tmpl: "e"}}} }},
	}
	for name, part := range map[string]func(*api.Cond) *api.Expr{"A": func(c *api.Cond) *api.Expr { return &c.A }, "B": func(c *api.Cond) *api.Expr { return &c.B }} {
		for _, e := range []api.Expr{at("x"), val(api.Num, "0"), val(api.Text, ""), {T: api.Term{V: of(api.None, "a")}}, {T: api.Term{V: of(-1, "")}}, {Op: "+"}, {L: []api.Expr{{}}}, op("+", val(api.Num, "1"), val(api.Num, "2"))} {
			l[name] = append(l[name], func(c *api.Cond) { *part(c) = e })
		}
	}
	return l
}

// P13.1 (M1): each thing that is no part of a condition's kind is wrong, be it the only thing that is; empty lists are not.
func TestNoParts(t *testing.T) {
	own := [][]string{{"As", "Pat"}, {"Pat"}, {"Op", "A", "B"}, {"Var", "Fold", "Arg", "By", "Over"}}
	for i, right := range eachCond(t) {
		knownOf(t, []api.Cond{right}, []string{"x num, f id a", "", "", "z sym, v num"}[i])
		for name, fills := range filling() {
			if within([]string{name}, own[i]...) {
				continue
			}
			for _, fill := range fills {
				c := right
				fill(&c)
				wrongOf(t, []api.Cond{c}, api.ErrForm)
				wrongOf(t, append(rows(t, "(e)"), c, api.Cond{}), api.ErrForm)
				wrongOf(t, append(rows(t, "(zz)"), c), api.ErrNone)
				bare := api.Cond{Kind: right.Kind}
				fill(&bare)
				wrongOf(t, []api.Cond{bare}, api.ErrForm)
			}
		}
		c := right
		if c.Kind > api.CondNot {
			c.Pat.Slots = []api.Slot{}
		}
		if c.Kind != api.CondIf {
			c.A.L, c.B.L = []api.Expr{}, make([]api.Expr, 0, 3)
		}
		if c.Kind != api.CondLet {
			c.By, c.Over = []string{}, []api.Cond{}
		}
		knownOf(t, []api.Cond{c}, []string{"x num, f id a", "", "", "z sym, v num"}[i])
	}
}

// P13.1 (M1): what is no part of a kind is told ahead of all that is wrong with its parts.
func TestNoPartsAhead(t *testing.T) {
	bad := []api.Cond{
		{Kind: api.CondPat, Pat: api.Pat{Tmpl: "zz"}}, {Kind: api.CondPat, As: "f", Pat: api.Pat{Tmpl: "a", Slots: []api.Slot{{Name: "zz"}}}}, {Kind: api.CondPat},
		{Kind: api.CondNot, Pat: api.Pat{Tmpl: "zz"}}, {Kind: api.CondNot},
		{Kind: api.CondIf, Op: "<", A: at("q"), B: at("r")}, {Kind: api.CondIf, Op: "<", A: val(api.Sym, "x"), B: at("q")},
		{Kind: api.CondLet, Var: "v", Fold: "few"}, {Kind: api.CondLet, Var: "v", Fold: "count", Over: make([]api.Cond, 13)}, {Kind: api.CondLet, Var: "v", Fold: "count", Arg: "y"},
	}
	for _, c := range bad {
		_, err := model(few(t)).conds([]api.Cond{c}, 0)
		if err == api.ErrForm || err == api.OK {
			t.Fatalf("%s: %d", brief(c), err)
		}
		wrongOf(t, []api.Cond{c}, err)
		if c.Kind != api.CondLet {
			c.Arg = "x"
		} else {
			c.Op = "<"
		}
		wrongOf(t, []api.Cond{c}, api.ErrForm)
	}
}

// P13.1 (M1): a pattern of a template that there is not, as a fact and as none, with slots or without, whatever these are.
func TestNoTemplate(t *testing.T) {
	for _, name := range append(noNames(), "", "b", "f", "aa", "num", "true") {
		for _, slots := range [][]api.Slot{nil, {{Name: "n", T: api.Term{V: of(api.Num, "1")}}}, {{Name: "zz"}}, {{Name: "n", T: api.Term{V: of(9, "")}}}} {
			for _, as := range []string{"", "f", "F"} {
				wrongOf(t, []api.Cond{{Kind: api.CondPat, As: as, Pat: api.Pat{Tmpl: name, Slots: slots}}}, api.ErrNone)
			}
			wrongOf(t, []api.Cond{{Kind: api.CondNot, Pat: api.Pat{Tmpl: name, Slots: slots}}}, api.ErrNone)
		}
	}
}

// eachWay tries a pattern of template a as a fact, as one with a variable, and as none; behind is what is known of the fact's variable then.
func eachWay(text string, try func(cond, behind string)) {
	try(text, "")
	try("(as ?f "+text+")", "f id a")
	try("(not "+text+")", "")
}

// both is what is known, one behind the other.
func both(first, second string) string {
	if first == "" || second == "" {
		return first + second
	}
	return first + ", " + second
}

// P13.1 (M1): a slot that the template has not, or has once, and not twice, wherever it stands.
func TestSlots(t *testing.T) {
	for _, text := range []string{
		"(e (n 1))", "(a (m 1))", "(one (s 'x))", "(c (t \"\"))", "(a (n 1) (x 2))", "(a (x 2) (n 1))", "(a (as 1))", "(a (a 1))",
		"(a (n 1) (n 1))", "(a (n 1) (n 2))", "(a (n ?x) (n ?x))", "(a (n ?x) (s 'r) (n 1))", "(a (n 1) (t \"\") (s 'x) (b true) (n 1))", "(a (s 'x) (t \"\") (s 'y))", "(one (n 'x) (n 'y))", "(a (b true) (b false))",
		"(a (x 1) (n 'x))", "(a (n 1) (n 'x))", "(a (x none))", "(a (n 1) (x 1) (s 1))", "(a (s 'x) (s 1) (n 'y))",
	} {
		eachWay(text, func(cond, _ string) { wrong(t, cond, api.ErrArg) })
	}
	for _, name := range append(noNames(), "") {
		c := rows(t, "(a (n 1) (s 'x))")
		c[0].Pat.Slots[1].Name = name
		wrongOf(t, c, api.ErrArg)
		c[0].Kind = api.CondNot
		wrongOf(t, c, api.ErrArg)
	}
	for _, text := range []string{"(a)", "(e)", "(a (n 1))", "(a (b true) (s 'x) (t \"\") (n 1))", "(a (n 1) (t \"\") (s 'x) (b true))", "(c (n 1) (m 1))", "(one (n 'x))"} {
		known(t, text, "")
		known(t, "(not "+text+")", "")
	}
}

// noTerms is terms that are not right, for one reason each.
func noTerms() []api.Term {
	l := []api.Term{{V: of(api.Id, "1")}, {V: of(api.Set, "")}, {V: of(api.Set, "1, 'a")}, {V: of(api.Num, "2/4")}, {V: of(api.Num, "")}, {V: of(api.Text, "\"")}, {V: of(api.Sym, "")}, {V: of(api.Sym, "X")}, {V: of(api.Bool, "yes")}, {V: of(api.None, "none")}, {V: of(-1, "")}, {V: of(7, "1")}, {Var: "x", V: of(api.Num, "1")}, {Var: "x", V: of(api.None, "1")}, {Var: "x", V: of(api.Set, "")}}
	for _, name := range noNames() {
		l = append(l, api.Term{Var: name})
	}
	return l
}

// P13.1 (M1): a term that is not right, at a slot of each type, and as all that is wrong or not.
func TestNoTerms(t *testing.T) {
	for _, term := range noTerms() {
		for i := range 4 {
			for _, ahead := range []string{"", "(a (n ?x))", "(a (s ?x))"} {
				l := append(rows(t, ahead), rows(t, "(a (n 1) (t \"\") (s 'x) (b true))")...)
				last := &l[len(l)-1]
				last.Pat.Slots[i].T = term
				wrongOf(t, l, api.ErrForm)
				last.Kind = api.CondNot
				wrongOf(t, l, api.ErrForm)
				last.Pat.Slots = append(last.Pat.Slots, api.Slot{Name: "zz"})
				wrongOf(t, l, api.ErrForm)
			}
		}
		wrongOf(t, []api.Cond{{Kind: api.CondPat, As: "F", Pat: api.Pat{Tmpl: "a", Slots: []api.Slot{{Name: "zz", T: term}}}}}, api.ErrArg)
		wrongOf(t, []api.Cond{{Kind: api.CondPat, Pat: api.Pat{Tmpl: "a", Slots: []api.Slot{{Name: "n", T: api.Term{Var: "y"}}, {Name: "n", T: term}}}}}, api.ErrArg)
		wrongOf(t, []api.Cond{{Kind: api.CondPat, Pat: api.Pat{Tmpl: "a", Slots: []api.Slot{{Name: "n", T: api.Term{V: of(api.Sym, "x")}}, {Name: "s", T: term}}}}}, api.ErrType)
	}
}

// P13.1 (M1): a value of each kind at a slot of each type.
func TestValuesAtSlots(t *testing.T) {
	slots := []string{"n", "t", "s", "b"}
	for i, values := range [][]string{{"0", "-3/2", times("9", 300)}, {"\"\"", "\"red\"", "\"1\"", "\"true\""}, {"'red", "'true", "'none", "'n"}, {"true", "false"}, {"none"}} {
		for j, slot := range slots {
			for _, v := range values {
				eachWay("(a ("+slot+" "+v+"))", func(cond, behind string) {
					if i != j {
						wrong(t, cond, api.ErrType)
					} else {
						known(t, cond+" (a (n ?x))", both(behind, "x num"))
					}
				})
			}
		}
	}
}

// P13.1 (M1): a variable that is known, of each type, at a slot of each type: of the same one alone it may stand there.
func TestVariablesAtSlots(t *testing.T) {
	makers := []string{"(a (n ?x))", "(a (t ?x))", "(a (s ?x))", "(a (b ?x))", "(as ?x (a))", "(as ?x (one))", "(let ?x set ?y () ((a (n ?y))))", "(let ?x min ?y () ((as ?y (c))))"}
	behind := []string{"x num", "x text", "x sym", "x bool", "x id a", "x id one", "x set", "x id c"}
	for i, maker := range makers {
		known(t, maker, behind[i])
		for j, slot := range []string{"n", "t", "s", "b"} {
			eachWay("(a ("+slot+" ?x))", func(cond, fact string) {
				if i != j {
					wrong(t, maker+cond, api.ErrType)
				} else {
					known(t, maker+cond, both(behind[i], fact))
				}
			})
		}
	}
}

// P13.1 (M1): a pattern's variables come to be known slot by slot, also at two slots, of one type or of two.
func TestPatternVariables(t *testing.T) {
	known(t, "(a (n ?x) (t ?y) (s ?z) (b ?w))", "x num, y text, z sym, w bool")
	known(t, "(a (b ?w) (s ?z) (t ?y) (n ?x))", "w bool, z sym, y text, x num")
	known(t, "(c (n ?x) (m ?x))", "x num")
	known(t, "(c (m ?y) (s ?z) (n ?x)) (d (n ?y) (m ?y) (s ?z))", "y num, z sym, x num")
	known(t, "(one (n ?n)) (a (s ?n) (n ?s))", "n sym, s num")
	for _, text := range []string{"(c (n ?x) (s ?x))", "(c (s ?x) (n ?x))", "(a (n ?x) (t ?x))", "(a (b ?x) (s ?y) (n ?x))", "(c (n ?x) (m ?x) (s ?x))"} {
		eachWay(text, func(cond, _ string) { wrong(t, cond, api.ErrType) })
	}
	wrong(t, "(one (n ?x)) (a (n ?x))", api.ErrType)
	for _, name := range names() {
		known(t, "(a (n ?"+name+")) (not (c (n ?"+name+") (m ?"+name+"))) (if = ?"+name+" 1)", name+" num")
	}
}

// P13.1 (M1): of two slots that are wrong the first one's error is told.
func TestFirstSlot(t *testing.T) {
	faults := map[api.Errno]api.Slot{
		api.ErrArg: {Name: "zz"}, api.ErrForm: {Name: "s", T: api.Term{Var: "X"}}, api.ErrType: {Name: "n", T: api.Term{V: of(api.Sym, "red")}},
	}
	for err, first := range faults {
		for other, second := range faults {
			for _, kind := range []int{api.CondPat, api.CondNot} {
				slots := []api.Slot{{Name: "t", T: api.Term{Var: "y"}}, first, second, {Name: "b", T: api.Term{Var: "z"}}}
				wrongOf(t, []api.Cond{{Kind: kind, Pat: api.Pat{Tmpl: "a", Slots: slots}}}, err)
				if other != err {
					wrongOf(t, []api.Cond{{Kind: kind, Pat: api.Pat{Tmpl: "zz", Slots: slots}}}, api.ErrNone)
				}
			}
		}
	}
}

// P13.1 (M1): As is a name, and not known by now: neither ahead, nor by its own pattern; it is an Id of the pattern's template.
func TestAs(t *testing.T) {
	known(t, "(as ?f (a))", "f id a")
	known(t, "(as ?f (e)) (as ?g (e)) (as ?h (one))", "f id e, g id e, h id one")
	known(t, "(as ?f (a (n ?x) (s ?y)))", "x num, y sym, f id a")
	known(t, "(a (n ?x)) (as ?f (c (n ?x) (m ?y)))", "x num, y num, f id c")
	for _, name := range names() {
		known(t, "(as ?"+name+" (a))", name+" id a")
		wrong(t, "(as ?"+name+" (a)) (as ?"+name+" (a))", api.ErrThere)
	}
	for _, name := range noNames() {
		c := rows(t, "(as ?f (a (n ?x)))")
		c[0].As = name
		wrongOf(t, c, api.ErrForm)
		c[0].Pat.Tmpl = "zz"
		wrongOf(t, c, api.ErrNone)
		c[0].Pat = api.Pat{Tmpl: "a", Slots: []api.Slot{{Name: "zz"}}}
		wrongOf(t, c, api.ErrArg)
	}
	for _, text := range []string{
		"(a (n ?f)) (as ?f (a))", "(as ?f (a)) (as ?f (a))", "(as ?f (a)) (as ?f (c))", "(as ?f (a (n ?f)))", "(as ?f (a (s 'x) (b ?f)))", "(e) (a (t ?f)) (e) (as ?f (e))",
		"(let ?f count ?x () ((a (n ?x)))) (as ?f (a))", "(let ?v count ?x (?f) ((a (n ?x) (s ?f)))) (as ?f (a))",
	} {
		wrong(t, text, api.ErrThere)
	}
	wrong(t, "(a (n ?f)) (as ?f (zz))", api.ErrNone)
	wrong(t, "(a (n ?f)) (as ?f (a (zz 1)))", api.ErrArg)
	wrong(t, "(a (n ?f)) (as ?f (a (n 'x)))", api.ErrType)
	wrong(t, "(as ?f (a)) (as ?f (a (n ?f)))", api.ErrType)
}

// P13.1 (M1): what not makes known is known no more behind it, and may come to be known anew, of another type; what was known ahead still is.
func TestNot(t *testing.T) {
	known(t, "(not (a (n ?x)))", "")
	known(t, "(not (a (n ?x) (s ?y))) (a (s ?x) (t ?y))", "x sym, y text")
	known(t, "(not (a (n ?x))) (not (a (s ?x))) (not (a (t ?x) (b ?y))) (as ?x (e))", "x id e")
	known(t, "(a (n ?x)) (not (c (n ?x) (m ?y))) (a (s ?y))", "x num, y sym")
	known(t, "(a (n ?x) (t ?y)) (not (a (n ?x) (s ?z) (t ?y) (b ?w))) (if = ?x 1) (if = ?y \"\")", "x num, y text")
	known(t, "(a (n ?x)) (not (a (s ?z))) (a (b ?z)) (not (c (m ?q))) (one (n ?q))", "x num, z bool, q sym")
	known(t, "(not (c (n ?x) (m ?x)))", "")
	for _, text := range []string{"(not (a (n ?x))) (if = ?x 1)", "(a (n ?y)) (not (a (n ?x))) (if = ?y ?x)", "(not (a (n ?x))) (let ?v count ?x () ((e)))", "(not (c (n ?x) (m ?y))) (if < ?y 1)"} {
		wrong(t, text, api.ErrNone)
	}
	for _, text := range []string{"(not (c (n ?x) (s ?x)))", "(a (n ?x)) (not (a (s ?x)))", "(as ?x (a)) (not (a (n ?x)))", "(a (n ?x)) (not (a (n ?y))) (a (s ?x))", "(a (n ?x)) (not (a (n ?x))) (a (s ?x))"} {
		wrong(t, text, api.ErrType)
	}
	wrong(t, "(a (n ?x)) (not (a (n ?x) (s ?y))) (as ?x (e))", api.ErrThere)
	wrong(t, "(not (e (n 1)))", api.ErrArg)
	wrong(t, "(not (zz (n ?x)))", api.ErrNone)
}

// P13.1 (M1): of two conditions in a row that are wrong the first one's error is told, whatever stands between.
func TestFirstCondition(t *testing.T) {
	for err, first := range conditionFaults(t) {
		for _, second := range conditionFaults(t) {
			for _, between := range []string{"", "(e)", "(not (a (n ?q)))"} {
				l := append(rows(t, "(a (n ?x))"), first)
				l = append(append(l, rows(t, between)...), second)
				wrongOf(t, append(l, rows(t, "(e)")...), err)
				wrongOf(t, l, err)
			}
		}
	}
}

// conditionFaults is conditions that are wrong behind one that makes a number ?x known, by their errors.
func conditionFaults(t *testing.T) map[api.Errno]api.Cond {
	return map[api.Errno]api.Cond{
		api.ErrForm: {Kind: api.CondIf, Op: "?"},
		api.ErrNone: rows(t, "(if = ?q 1)")[0], api.ErrArg: rows(t, "(a (zz 1))")[0], api.ErrType: rows(t, "(not (a (n 'x)))")[0], api.ErrThere: rows(t, "(as ?x (e))")[0],
		api.ErrTooMany: rows(t, "(let ?v count ?y () ("+times("(e)", 13)+"))")[0],
	}
}
