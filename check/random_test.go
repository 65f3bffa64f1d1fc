package check_test

import (
	"reflect"
	"strconv"
	"testing"

	"tribunal/api"
	"tribunal/check"
)

// held fails, unless all that is told of a program is what another one tells: of all, of each rule's conditions, and of its actions, with what is known behind, and with nothing.
func held(t testing.TB, p api.Program) api.Errno {
	t.Helper()
	want, place := fault(p)
	checked(t, p, want, place)
	if err, _ := templates(p.Tmpls); err != api.OK {
		return want
	}
	s, m := made(t, p.Tmpls), model(p.Tmpls)
	for _, r := range p.Rules {
		known, _ := asked(t, p.Tmpls, r.Conds)
		for _, a := range r.Acts {
			for _, l := range [][]api.Known{known, nil, untold(aheadKnown)} {
				if got, want := check.Act(s, l, a), m.act(l, a); got != want {
					t.Fatalf("%s, with %s: got %d, want %d", brief(a), told(l), got, want)
				}
			}
		}
	}
	if want == api.OK {
		back(t, p)
	}
	return want
}

// enough fails, unless each error was told as often as that, and nothing wrong as well.
func enough(t *testing.T, counts map[api.Errno]int, least int) {
	t.Helper()
	for _, err := range []api.Errno{api.OK, api.ErrArg, api.ErrTooMany, api.ErrNone, api.ErrThere, api.ErrForm, api.ErrType} {
		if counts[err] < least {
			t.Errorf("error %d: just %d times", err, counts[err])
		}
	}
}

// P13.1: random programs that are right but for one or two places, or are right again, held against another telling.
func TestNearlyRight(t *testing.T) {
	m, counts := newMaker(4, few(t)), map[api.Errno]int{}
	for range 7000 {
		p := copied(m.program())
		nearly(m, &p.Rules)
		if m.Intn(8) == 0 {
			nearly(m, &p)
		}
		counts[held(t, p)]++
	}
	enough(t, counts, 10)
}

// tiny makes programs of few names, right or not.
type tiny struct{ maker }

func (m tiny) name() string { return one(m.maker, "x", "y", "z", "f") }

func (m tiny) slot() string { return one(m.maker, "n", "n", "s", "m", "t") }

func (m tiny) tmpl() string { return one(m.maker, "a", "c", "d", "one", "e") }

func (m tiny) term() api.Term {
	if m.Intn(4) > 0 {
		return api.Term{Var: m.name()}
	}
	return api.Term{V: m.value(one(m.maker, 1, 1, 1, 3, 3, 2))}
}

func (m tiny) expr() api.Expr {
	if m.Intn(4) == 0 {
		return op(one(m.maker, "+", "*"), m.expr(), m.expr())
	}
	return api.Expr{T: m.term()}
}

func (m tiny) pat() api.Pat {
	p := api.Pat{Tmpl: m.tmpl()}
	for range m.Intn(3) {
		p.Slots = append(p.Slots, api.Slot{Name: m.slot(), T: m.term()})
	}
	return p
}

func (m tiny) cond(deep int) api.Cond {
	switch kind := 1 + m.Intn(6); {
	case kind == api.CondNot:
		return api.Cond{Kind: kind, Pat: m.pat()}
	case kind == api.CondIf:
		return api.Cond{Kind: kind, Op: one(m.maker, "<", "=", ">="), A: m.expr(), B: m.expr()}
	case kind == api.CondLet && deep < 6:
		c := api.Cond{Kind: kind, Var: m.name(), Fold: one(m.maker, folds()...), Arg: m.name()}
		for range m.Intn(3) {
			c.By = append(c.By, m.name())
		}
		c.Over = m.conds(2, deep+1)
		return c
	case kind == 5:
		return api.Cond{Kind: api.CondPat, As: m.name(), Pat: m.pat()}
	}
	return api.Cond{Kind: api.CondPat, Pat: m.pat()}
}

func (m tiny) conds(most, deep int) []api.Cond {
	var l []api.Cond
	for range m.Intn(most + 1) {
		l = append(l, m.cond(deep))
	}
	return l
}

func (m tiny) act() api.Act {
	a := api.Act{Kind: 1 + m.Intn(5)}
	switch a.Kind {
	case api.ActAssert:
		a.Tmpl = m.tmpl()
	case api.ActRetract, api.ActModify:
		a.Var = m.name()
	case api.ActPrint:
		a.E = m.expr()
	}
	if a.Kind == api.ActAssert || a.Kind == api.ActModify {
		for range m.Intn(4) {
			a.Fills = append(a.Fills, api.Fill{Name: m.slot(), E: m.expr()})
		}
	}
	return a
}

// P13.1: random programs made of few names, held against another telling.
func TestFewNames(t *testing.T) {
	m, counts := tiny{newMaker(5, few(t))}, map[api.Errno]int{}
	for range 30000 {
		p := api.Program{Tmpls: m.tmpls}
		for range 1 + m.Intn(2) {
			r := api.Rule{Name: one(m.maker, "q", "r", "s", "t", "u"), Conds: m.conds(4, 0)}
			for range m.Intn(3) {
				r.Acts = append(r.Acts, m.act())
			}
			p.Rules = append(p.Rules, r)
		}
		counts[held(t, p)]++
	}
	for _, err := range []api.Errno{api.OK, api.ErrArg, api.ErrNone, api.ErrThere, api.ErrType} {
		if counts[err] < 500 {
			t.Errorf("error %d: just %d times", err, counts[err])
		}
	}
}

// manySided is a right program with something at each place that its kinds have.
const manySided = fewText + `
(rule r0 -7 ((as ?f (a (n ?n) (t "u") (s ?s) (b true))) (c (n 1) (m ?m)) (not (one (n ?s))) (not (d (n ?q) (s 'red))) (if < (+ ?n 1) ?m) (if = ?s 'red)
  (let ?v sum ?x (?s) ((c (n ?x) (s ?s)) (let ?w max ?g (?x ?s) ((as ?g (d (m ?x) (s ?s))))))) (let ?u set ?y () ((a (b ?y)) (not (e)))))
 ((assert c (m (* ?v 2)) (n ?m) (s ?s)) (modify ?f (s 'done) (n (- ?n 1/2))) (retract ?f) (print ?u) (print (/ ?v ?n)) (halt)))
(rule r1 7 ((as ?f (one (n ?x)))) ((modify ?f) (print none)))`

// P13.1: of a right program each text, number and list, changed alone, in many ways, held against another telling.
func TestEachPlace(t *testing.T) {
	p := parsed(t, manySided)
	checked(t, p, api.OK, 0)
	back(t, p)
	counts := map[api.Errno]int{}
	for _, v := range places(reflect.ValueOf(&p.Rules).Elem()) {
		switch v.Kind() {
		case reflect.String:
			for _, word := range words() {
				change(v, reflect.ValueOf(word), func() { counts[held(t, p)]++ })
			}
		case reflect.Int:
			for n := -1; n < 8; n++ {
				change(v, reflect.ValueOf(n), func() { counts[held(t, p)]++ })
			}
		case reflect.Slice:
			eachList(v, func() { counts[held(t, p)]++ })
		}
	}
	checked(t, p, api.OK, 0)
	enough(t, counts, 4)
}

// change puts another thing at a place while something is asked.
func change(v, other reflect.Value, ask func()) {
	was := reflect.New(v.Type()).Elem()
	was.Set(v)
	v.Set(other)
	ask()
	v.Set(was)
}

// eachList asks of a list without each one, with each one twice, with a zero one behind, with two that stand in each other's places, and with far more.
func eachList(v reflect.Value, ask func()) {
	many := v.Len()
	part := func(from, to int) reflect.Value { return v.Slice3(from, to, to) }
	change(v, reflect.Append(part(0, many), reflect.Zero(v.Type().Elem())), ask)
	for i := range many {
		change(v, reflect.AppendSlice(part(0, i), part(i+1, many)), ask)
		change(v, reflect.AppendSlice(part(0, i+1), part(i, many)), ask)
		if i > 0 {
			swap := reflect.Swapper(v.Interface())
			swap(i-1, i)
			ask()
			swap(i-1, i)
		}
		long := part(0, many)
		for range 40 {
			long = reflect.Append(long, v.Index(i))
		}
		change(v, long, ask)
	}
}

// P13.1: random templates, of which one may be wrong, beside rules that may be wrong too.
func TestRandomTemplates(t *testing.T) {
	m := newMaker(6, few(t))
	for range 2500 {
		p := copied(m.program())
		nearly(m, &p.Tmpls)
		if m.Intn(2) == 0 {
			nearly(m, &p.Rules)
		}
		for i := range p.Tmpls {
			if m.Intn(4) == 0 {
				p.Tmpls[i].Name = one(m, "t"+strconv.Itoa(i), "a", "as")
			}
		}
		held(t, p)
	}
}
