package check_test

import (
	"fmt"
	"slices"
	"strings"
	"testing"

	"tribunal/api"
)

func folds() []string { return []string{"count", "sum", "min", "max", "avg", "set"} }

// P13.1 (M1): what each fold of a variable of each type makes known: its type, and for min and max of facts' numbers the template.
func TestFolds(t *testing.T) {
	over := map[string]string{
		"num": "(a (n ?x))", "text": "(a (t ?x))", "sym": "(a (s ?x))", "bool": "(a (b ?x))", "id a": "(as ?x (a))", "id one": "(as ?x (one (n 'red)))",
		"set": "(let ?x set ?y () ((a (n ?y))))", "id c": "(let ?x max ?y () ((as ?y (c))))",
	}
	for kind, conds := range over {
		for _, fold := range folds() {
			text := fmt.Sprintf("(let ?v %s ?x () (%s))", fold, conds)
			if (fold == "sum" || fold == "avg") && kind != "num" {
				wrong(t, text, api.ErrType)
				continue
			}
			want := map[string]string{"count": "num", "sum": "num", "min": kind, "max": kind, "avg": "num", "set": "set"}[fold]
			known(t, text, "v "+want)
			known(t, "(e)"+text+"(if = ?v ?v)", "v "+want)
			known(t, fmt.Sprintf("(let ?v %s ?x (?x) (%s))", fold, conds), "x "+kind+", v "+want)
		}
	}
}

// P13.1 (M1): Var is a name; a fold is one of six.
func TestLetNames(t *testing.T) {
	right := rows(t, "(let ?v count ?x () ((a (n ?x))))")
	for _, name := range names() {
		c := copied(right)
		c[0].Var = name
		knownOf(t, c, name+" num")
	}
	for _, name := range append(noNames(), "") {
		c := copied(right)
		c[0].Var = name
		wrongOf(t, c, api.ErrForm)
	}
	for _, fold := range append(noNames(), "", "counts", "coun", "Count", "mean", "a", "num", "list", "count ", "1", "sum\x00", "product") {
		c := copied(right)
		c[0].Fold = fold
		wrongOf(t, c, api.ErrNone)
	}
}

// nested is a let in as many others as deep less 1; the innermost one is of those conditions, which make ?x known.
func nested(deep int, inner string) string {
	text := "(let ?x count ?x () (" + inner + "))"
	for range deep - 1 {
		text = "(let ?x max ?x () (" + text + "))"
	}
	return text
}

// P13.1 (M1): let in let up to 5 deep; from 6 on (in 5 others) it is ErrTooMany, ahead of what is wrong within, and behind its own Var and Fold.
func TestLetInLet(t *testing.T) {
	for deep := 1; deep <= 8; deep++ {
		text := nested(deep, "(a (n ?x))")
		if deep <= 5 {
			known(t, text, "x num")
			known(t, "(a (s ?y))"+text, "y sym, x num")
			wrong(t, nested(deep, "(zz)"), api.ErrNone)
			wrong(t, nested(deep, "(a (zz 1))"), api.ErrArg)
			continue
		}
		for _, inner := range []string{"(a (n ?x))", "(zz)", "(a (zz 1))", "", "(e)", times("(e)", 13)} {
			wrong(t, nested(deep, inner), api.ErrTooMany)
			wrong(t, "(e)"+nested(deep, inner)+"(zz)", api.ErrTooMany)
		}
		wrong(t, "(zz)"+text, api.ErrNone)
	}
	for _, deep := range []int{20, 300} {
		wrong(t, nested(deep, "(a (n ?x))"), api.ErrTooMany)
	}
	five := rows(t, nested(6, "(a (n ?x))"))
	inner := &five[0]
	for range 5 {
		inner = &inner.Over[0]
	}
	inner.Fold = "few"
	wrongOf(t, five, api.ErrNone)
	inner.Var = "V"
	wrongOf(t, five, api.ErrForm)
	inner.Fold = "sum"
	wrongOf(t, five, api.ErrForm)
	known(t, "(let ?v count ?w () ("+nested(4, "(a (n ?x))")+" (let ?w count ?x () ((a (n ?x))))))"+nested(5, "(a (n ?x))"), "v num, x num")
}

// P13.1 (M1): a let that stands in itself ends; so do many in one another that have their conditions in common.
func TestLetInItself(t *testing.T) {
	l := rows(t, "(a (n ?x)) (let ?v count ?x () ((e)))")
	l[1].Over = l
	wrongOf(t, l, api.ErrTooMany)
	l[0] = l[1]
	wrongOf(t, l, api.ErrTooMany)
	over := rows(t, "(a (n ?x))")
	for range 4 {
		var next []api.Cond
		for i := range 3 {
			next = append(next, api.Cond{Kind: api.CondLet, Var: string(rune('w' + i)), Fold: "max", Arg: "x", Over: over})
		}
		over = next
	}
	knownOf(t, over, "w num, x num, y num")
	e := api.Expr{Op: "+", L: make([]api.Expr, 2)}
	e.L[0], e.L[1] = e, e
	wrongOf(t, []api.Cond{{Kind: api.CondIf, Op: "<", A: e, B: e}}, api.ErrForm)
}

// P13.1 (M1): the error of Over is that of its conditions, of which nothing is known ahead: none, 12, 13, and each one's.
func TestOver(t *testing.T) {
	let := func(over string) string { return "(let ?v count ?x () (" + over + "))" }
	wrong(t, let(""), api.ErrNone)
	wrong(t, "(a (n ?x))"+let(""), api.ErrNone)
	known(t, let(times("(e)", 11)+"(a (n ?x))"), "v num")
	wrong(t, let(times("(e)", 12)+"(a (n ?x))"), api.ErrTooMany)
	known(t, times("(e)", 11)+let(times("(e)", 11)+"(a (n ?x))"), "v num")
	wrong(t, times("(e)", 12)+let("(a (n ?x))"), api.ErrTooMany)
	for err, text := range map[api.Errno]string{
		api.ErrNone: "(zz)", api.ErrArg: "(a (zz 1))", api.ErrType: "(a (n 'x))", api.ErrThere: "(as ?x (a))", api.ErrTooMany: let(times("(e)", 13)),
	} {
		wrong(t, let("(a (n ?x))"+text), err)
		wrong(t, let("(a (n ?x)) (let ?w count ?y () ((a (n ?x) (s ?y))"+text+"))"), err)
		wrong(t, "(a (n ?x))"+let("(a (n ?x))"+text)+"(e)", err)
	}
	wrongOf(t, []api.Cond{{Kind: api.CondLet, Var: "v", Fold: "count", Arg: "x", Over: []api.Cond{{Kind: 9}}}}, api.ErrForm)
	known(t, "(a (n ?x)) (let ?v max ?x () ((a (s ?x))))", "x num, v sym")
	known(t, "(as ?x (a)) (let ?v count ?x () ((as ?x (c))))", "x id a, v num")
	wrong(t, "(a (n ?y)) (let ?v count ?x () ((a (n ?x)) (if < ?x ?y)))", api.ErrNone)
}

// P13.1 (M1): Arg is known behind Over: outside alone it is not enough, nor behind a not, nor deeper within.
func TestArg(t *testing.T) {
	known(t, "(let ?v sum ?x () ((a (n ?x))))", "v num")
	known(t, "(a (n ?x)) (let ?v sum ?x () ((a (n ?x))))", "x num, v num")
	for _, text := range []string{
		"(let ?v sum ?x () ((a (n ?y))))", "(a (n ?x)) (let ?v sum ?x () ((a (n ?y))))", "(let ?v sum ?x () ((not (a (n ?x)))))", "(let ?v sum ?v () ((a (n ?x))))",
		"(let ?v sum ?x () ((let ?w sum ?x () ((a (n ?x))))))", "(let ?v count ?x () ((e)))", "(a (n ?x)) (let ?v count ?x () ((e)))", "(let ?v avg ?x () ((a (s ?y))))",
	} {
		wrong(t, text, api.ErrNone)
	}
	for _, arg := range append(noNames(), "") {
		c := rows(t, "(let ?v count ?x () ((a (n ?x))))")
		c[0].Arg = arg
		wrongOf(t, c, api.ErrNone)
	}
	known(t, "(let ?v sum ?x () ((let ?w sum ?x (?x) ((a (n ?x))))))", "v num")
	known(t, "(let ?v sum ?w () ((let ?w sum ?x () ((a (n ?x))))))", "v num")
	known(t, "(let ?v count ?v () ((a (n ?v))))", "v num")
}

// P13.1 (M1): By of none, one and many: each one stands there once, and is known behind Over; of each one ErrThere is told ahead of ErrNone, one by one.
func TestBy(t *testing.T) {
	over := " ((as ?f (a (n ?n) (t ?t) (s ?s) (b ?b))) (let ?u set ?x () ((a (n ?x)))) (not (one (n ?q)))))"
	for by, want := range map[string]string{
		"": "", "?s": "s sym", "?n": "n num", "?s ?n": "s sym, n num", "?b ?s ?t ?f ?u ?n": "b bool, s sym, t text, f id a, u set, n num", "?u": "u set", "?f": "f id a",
	} {
		known(t, "(let ?v count ?n ("+by+")"+over, both(want, "v num"))
		known(t, "(e) (let ?v set ?f ("+by+")"+over, both(want, "v set"))
		known(t, "(let ?v max ?f ("+by+")"+over, both(want, "v id a"))
	}
	for by, err := range map[string]api.Errno{
		"?s ?s": api.ErrThere, "?s ?n ?s": api.ErrThere, "?n ?n ?q": api.ErrThere, "?q": api.ErrNone, "?x": api.ErrNone, "?v": api.ErrNone, "?q ?q": api.ErrNone, "?q ?n ?n": api.ErrNone, "?n ?q ?n": api.ErrNone, "?n ?q ?q": api.ErrNone, "?n ?s ?n ?q": api.ErrThere, "?b ?t ?s ?n ?q": api.ErrNone,
	} {
		wrong(t, "(let ?v count ?n ("+by+")"+over, err)
		wrong(t, "(a (n ?q) (t ?v)) (let ?v count ?n ("+by+")"+over, err)
	}
	for _, name := range append(noNames(), "") {
		c := rows(t, "(let ?v count ?x () ((a (n ?x))))")
		c[0].By = []string{"x", name}
		wrongOf(t, c, api.ErrNone)
		c[0].By = []string{"x", "x", name}
		wrongOf(t, c, api.ErrThere)
	}
	wrongOf(t, []api.Cond{{Kind: api.CondLet, Var: "v", Fold: "count", Arg: "x", By: make([]string, 100000), Over: rows(t, "(a (n ?x))")}}, api.ErrNone)
}

// P13.1 (M1): a variable of By that is known outside is of the same type, and template, inside; else it comes to be known.
func TestByOutside(t *testing.T) {
	makers := []string{"(a (n ?x))", "(a (t ?x))", "(a (s ?x))", "(a (b ?x))", "(as ?x (a))", "(as ?x (c))", "(as ?x (d))", "(let ?x set ?y () ((a (n ?y))))", "(let ?x min ?y () ((as ?y (c))))"}
	types := []string{"num", "text", "sym", "bool", "id a", "id c", "id d", "set", "id c"}
	for i, outside := range makers {
		for j, inside := range makers {
			for _, by := range []string{"?x", "?n ?x", "?x ?n"} {
				text := outside + "(let ?v count ?n (" + by + ") (" + inside + "(one (n ?n))))"
				switch {
				case types[i] != types[j]:
					wrong(t, text, api.ErrType)
				case by == "?x":
					known(t, text, "x "+types[i]+", v num")
				default:
					known(t, text, "x "+types[i]+", n sym, v num")
				}
			}
			known(t, outside+"(let ?v count ?n () ("+inside+"(one (n ?n))))", "x "+types[i]+", v num")
		}
	}
	known(t, "(a (n ?n) (t ?t)) (let ?v count ?s (?t ?s ?n ?b) ((a (n ?n) (s ?s) (t ?t) (b ?b))))", "n num, t text, s sym, b bool, v num")
	wrong(t, "(a (n ?n) (s ?t)) (let ?v count ?s (?t ?s ?n ?b) ((a (n ?n) (s ?s) (t ?t) (b ?b))))", api.ErrType)
	known(t, "(a (n ?s)) (let ?v count ?s () ((a (s ?s))))", "s num, v num")
}

// P13.1 (M1): Var is not known by now: neither outside, nor by By; what is known inside alone it may be.
func TestVarIsNew(t *testing.T) {
	for _, text := range []string{
		"(a (n ?v)) (let ?v count ?x () ((a (n ?x))))", "(a (s ?v)) (let ?v count ?x () ((a (n ?x))))", "(as ?v (a)) (let ?v max ?x () ((as ?x (a))))", "(let ?v count ?x () ((a (n ?x)))) (let ?v count ?x () ((a (n ?x))))",
		"(let ?v count ?x (?v) ((a (n ?x) (s ?v))))", "(let ?x count ?x (?x) ((a (n ?x))))", "(let ?v sum ?x (?s ?v) ((a (n ?x) (s ?v) (t ?s))))", "(a (n ?x)) (let ?x count ?x (?x) ((a (n ?x))))",
	} {
		wrong(t, text, api.ErrThere)
		wrong(t, text+"(zz)", api.ErrThere)
	}
	known(t, "(let ?x count ?x () ((a (n ?x))))", "x num")
	known(t, "(let ?x set ?y () ((a (n ?y) (s ?x))))", "x set")
	known(t, "(not (a (n ?v))) (let ?v set ?x () ((a (n ?x))))", "v set")
	known(t, "(let ?v set ?v (?s) ((a (n ?v) (s ?s))))", "s sym, v set")
}

// P13.1 (M1): what is known inside is known no more behind, but for By; it may come to be known anew, as something else.
func TestInsideAlone(t *testing.T) {
	let := "(let ?v count ?n (?s) ((as ?f (a (n ?n) (s ?s) (b ?b))) (let ?w sum ?m () ((c (m ?m))))))"
	known(t, let, "s sym, v num")
	for _, name := range []string{"n", "f", "b", "w", "m"} {
		wrong(t, let+"(if = ?"+name+" ?"+name+")", api.ErrNone)
		wrong(t, let+"(if != 1 ?"+name+")", api.ErrNone)
		known(t, let+"(a (t ?"+name+"))", "s sym, v num, "+name+" text")
		known(t, let+"(as ?"+name+" (e))", "s sym, v num, "+name+" id e")
		known(t, let+"(let ?"+name+" set ?x () ((a (n ?x))))", "s sym, v num, "+name+" set")
		known(t, "(a (t ?"+name+"))"+let, name+" text, s sym, v num")
	}
	known(t, let+"(if = ?s 'red) (if < ?v 3)", "s sym, v num")
	wrong(t, let+"(as ?s (e))", api.ErrThere)
	wrong(t, let+"(a (n ?s))", api.ErrType)
	wrong(t, let+let, api.ErrThere)
}

// letting is a right let behind right conditions, with as many others around it.
type letting struct {
	ahead, let []api.Cond
	around     int
}

// letFault is what is wrong with a let: its error, and what it changes, each as a word; two that change the same do not go together.
type letFault struct {
	err     api.Errno
	changes string
	do      func(t *testing.T, l *letting)
}

// letFaults is all, as the chapter names them.
func letFaults() []letFault {
	let := func(change func(t *testing.T, c *api.Cond)) func(*testing.T, *letting) {
		return func(t *testing.T, l *letting) { change(t, &l.let[0]) }
	}
	return []letFault{
		{api.ErrForm, "as", let(func(_ *testing.T, c *api.Cond) { c.As = "z" })},
		{api.ErrForm, "var", let(func(_ *testing.T, c *api.Cond) { c.Var = "V" })},
		{api.ErrNone, "fold", let(func(_ *testing.T, c *api.Cond) { c.Fold = "few" })},
		{api.ErrTooMany, "around", func(_ *testing.T, l *letting) { l.around = 5 }},
		{api.ErrTooMany, "over", let(func(t *testing.T, c *api.Cond) { c.Over = rows(t, times("(e)", 13)) })},
		{api.ErrArg, "over", let(func(t *testing.T, c *api.Cond) { c.Over = append(c.Over, rows(t, "(a (zz 1))")...) })},
		{api.ErrNone, "arg", let(func(_ *testing.T, c *api.Cond) { c.Arg = "q" })},
		{api.ErrType, "arg fold", let(func(_ *testing.T, c *api.Cond) { c.Arg, c.Fold = "t", "avg" })},
		{api.ErrThere, "twice", let(func(_ *testing.T, c *api.Cond) { c.By = append([]string{"n", "n"}, c.By...) })},
		{api.ErrNone, "by", let(func(_ *testing.T, c *api.Cond) { c.By = append(c.By, "q") })},
		{api.ErrType, "outside", func(t *testing.T, l *letting) { l.ahead = append(l.ahead, rows(t, "(a (n ?s))")...) }},
		{api.ErrThere, "var", func(t *testing.T, l *letting) { l.ahead = append(l.ahead, rows(t, "(a (t ?v))")...) }},
	}
}

// all is the conditions, with the others around.
func (l letting) all() []api.Cond {
	conds := append(slices.Clone(l.ahead), l.let...)
	for range l.around {
		conds = []api.Cond{{Kind: api.CondLet, Var: "y", Fold: "count", Arg: "y", Over: append(conds[:len(conds):len(conds)], api.Cond{Kind: api.CondPat, Pat: api.Pat{Tmpl: "a", Slots: []api.Slot{{Name: "n", T: api.Term{Var: "y"}}}}})}}
	}
	return conds
}

// P13.1 (M1): each error of a let alone, and each two of them together, of which the first one is told; with something wrong behind it, too.
func TestErrorsOfLet(t *testing.T) {
	right := func() letting {
		return letting{rows(t, "(a (n ?x))"), rows(t, "(let ?v sum ?n (?s) ((a (n ?n) (s ?s) (t ?t) (b ?b))))"), 0}
	}
	knownOf(t, right().all(), "x num, s sym, v num")
	many := 0
	for i, first := range letFaults() {
		for j, second := range letFaults() {
			l := right()
			first.do(t, &l)
			if j > i && together(first.changes, second.changes) {
				second.do(t, &l)
			} else if j != i {
				continue
			}
			many++
			wrongOf(t, l.all(), first.err)
			wrongOf(t, append(l.all(), rows(t, "(a (zz 1))")...), first.err)
		}
	}
	if many < 70 {
		t.Errorf("just %d", many)
	}
}

// together tells whether faults that change those may go together.
func together(a, b string) bool {
	return !slices.ContainsFunc(strings.Fields(a), func(word string) bool { return slices.Contains(strings.Fields(b), word) })
}
