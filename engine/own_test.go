package engine_test

import (
	"math"
	"testing"

	"tribunal/api"
	"tribunal/bind"
	"tribunal/engine"
	"tribunal/parse"
)

// P3: what New was handed is not changed, nor its spare room, be it a program that may be or not; nor is it kept: changed by the one who gave it, also behind calls and runs, nothing is told otherwise.
func TestProgramIsNotKept(t *testing.T) {
	m := newMaker(t, 40)
	for range 150 {
		p := m.right(t, 4)
		given := roomy(p)
		e, _, _ := engine.New(given)
		was := whole(given)
		b := of(t, p)
		for i := range 16 {
			m.step(b)
			b.calls[len(b.calls)-1](e)
			if i == 8 && whole(given) != was {
				t.Fatalf("%s: changed, or its spare room", brief(p))
			}
			if i == 8 {
				spoil(&given)
				was = whole(given)
			}
			if s := unlike(stateOf(e, len(p.Rules)), stateOf(b.e, len(p.Rules))); s != "" {
				t.Fatalf("%s: %s", brief(p), s)
			}
		}
		if whole(given) != was {
			t.Fatalf("%s: what was spoilt is changed", brief(p))
		}
	}
	right := program(t, "(rule r0 0 () ())")
	held := len(holding(t)) // in lists that stand in themselves spare room cannot be told
	for i, w := range wrongRules(t)[:len(wrongRules(t))-held] {
		given := roomy(api.Program{Tmpls: right.Tmpls, Rules: append(right.Rules, w.r)})
		was := whole(given)
		engine.New(given)
		if whole(given) != was {
			t.Fatalf("%d: changed, or its spare room", i)
		}
	}
	for i, w := range wrongTemplates(t) {
		given := roomy(w.p)
		was := whole(given)
		engine.New(given)
		if whole(given) != was {
			t.Fatalf("%d: changed, or its spare room", i)
		}
	}
}

// P3: expressions deep in actions, slots' names, variables and kinds are not kept: changed once the engine is there, the actions do as ahead.
func TestActionsAreNotKept(t *testing.T) {
	p := program(t, "(rule r 0 ((as ?f (p (a ?x) (b ?y)))) ((print (+ (* ?x 2) (- ?y (/ 1 2)))) (assert q (a (+ ?x (* ?y ?y))) (s 'a)) (modify ?f (a (- (+ ?x 1) ?y)))))")
	b := of(t, copied(p))
	e, _, _ := engine.New(p)
	for range 2 {
		acts := p.Rules[0].Acts
		acts[0].E.L[0].L[1].T.V.S, acts[0].E.L[1].L[1].L[0].T.V.S, acts[0].E.L[1].Op, acts[0].E.L[0].L[0] = "7", "5", "+", acts[0].E.L[1]
		acts[1].Fills[0].E.L[1].L[0].T.Var, acts[1].Fills[1].Name, acts[1].Fills[1].E.T.V.S, acts[1].Tmpl = "x", "a", "b", "p"
		acts[2].Fills[0].E.L[0].L[1].T.V.S, acts[2].Fills[0].Name, acts[2].Var = "9", "b", "g"
		acts[0].Kind, acts[1].Kind = api.ActHalt, api.ActHalt
		acts[2].Kind = api.ActRetract
		p.Rules[0].Salience = 7
	}
	e.Assert(fact("p 3 2"))
	fired, stop := e.Run(1)
	if got := firedLines(fired); stop != api.StopFuel || len(got) != 1 || got[0] != "0 f=#1 x=3 y=2 #1 > 15/2: 3" {
		t.Errorf("got %s, %d", got, stop)
	}
	if got := factLines(e.Facts()); len(got) != 2 || got[0] != "2 q 7 'a" || got[1] != "3 p 2 2" {
		t.Errorf("got %s", got)
	}
	b.comes("p 3 2").runs(1, api.StopFuel, "0 f=#1 x=3 y=2 #1 > 15/2: 3")
}

// P3: one list may be handed in for each call, changed between.
func TestOneList(t *testing.T) {
	b := ofText(t, "(rule r 0 ((p (a ?x) (b ?y))) ()) (rule s 0 ((let ?n sum ?x () ((p (a ?x))))) ((print ?n)))")
	vals, l := []api.Value{num("1"), num("1")}, puts("a=1 b=1")
	for i := range 5 {
		vals[0], vals[1] = num([]string{"1", "2", "1/2", "0", "5"}[i]), num("7")
		b.e.Assert("p", vals)
		b.m.assert("p", vals)
		l[0].V, l[1].V = vals[1], vals[0]
		if i%2 == 1 {
			b.e.Modify(i, l)
			b.m.modify(i, l)
		}
	}
	b.check()
	b.has("2 p 2 7", "4 p 1/2 7", "5 p 0 7", "6 p 7 0", "7 p 5 7").runs(9, api.StopEmpty, "0 x=5 y=7 #7: 0", "0 x=7 y=0 #6: 0", "0 x=0 y=7 #5: 0", "0 x=1/2 y=7 #4: 0", "0 x=2 y=7 #2: 0", "1 n=29/2 > 29/2: 1")
}

// P3: what is handed in stays as it was, behind calls that come behind it too; what was told stays as it was, whatever is told behind it, and whatever is done to that.
func TestToldStays(t *testing.T) {
	m := newMaker(t, 43)
	for range 80 {
		p := m.right(t, 3)
		b := of(t, p)
		e := b.again()
		var all []any
		var want []string
		keep := func(things ...any) {
			for _, one := range things {
				all, want = append(all, one), append(want, whole(one))
			}
		}
		for range 15 {
			_, vals := m.fact()
			given, l := roomy(vals), roomy(m.puts(b.m, 0))
			tmpl := m.tmpl().Name
			id, _ := e.Assert(tmpl, given)
			e.Modify(id-1, l)
			c := roomy(one(m, p.Rules...).Conds)
			keep(given, l, c)
			rows, _ := e.Query(c)
			fired, _ := e.Run(m.Intn(3))
			keep(rows, fired, e.Facts(), e.Agenda(), e.Set(0))
			more, _ := e.Run(1)
			others, facts, todo, set := rowsOf(e, c), e.Facts(), e.Agenda(), e.Set(0)
			spoil(&more)
			spoil(&others)
			spoil(&facts)
			spoil(&todo)
			spoil(&set)
			for _, f := range e.Facts()[min(6, len(e.Facts())):] {
				e.Retract(f.Id)
			}
		}
		for i := range all {
			if whole(all[i]) != want[i] {
				t.Fatalf("%d: got %s, want %s", i, brief(whole(all[i])), brief(want[i]))
			}
		}
	}
}

func rowsOf(e *engine.Engine, l []api.Cond) []api.Tuple {
	rows, _ := e.Query(l)
	return rows
}

// P3: no list of an answer shares memory with an argument, with another answer, or with another list of the same answer; also of rules that hold for the same, and of what is fired while others are.
func TestApart(t *testing.T) {
	m, many := newMaker(t, 44), 0
	for range 120 {
		p := m.right(t, 2)
		p.Rules = append(p.Rules, copied(p.Rules)...)
		for i := range p.Rules {
			p.Rules[i].Name = "r" + string(rune('a'+i))
		}
		given := roomy(p)
		e, _, _ := engine.New(given)
		all := lists(given)
		for range 15 {
			tmpl, vals := m.fact()
			vals = roomy(vals)
			e.Assert(tmpl, vals)
			c := roomy(one(m, p.Rules...).Conds)
			all = append(all, lists(vals)...)
			all = append(all, lists(c)...)
			all = append(all, lists(rowsOf(e, c))...)
			for range 2 {
				fired, _ := e.Run(2)
				all = append(all, lists(fired)...)
				all = append(all, lists(e.Set(m.Intn(len(p.Rules))))...)
				all = append(all, lists(e.Facts())...)
				all = append(all, lists(e.Agenda())...)
			}
			for _, f := range e.Facts()[min(6, len(e.Facts())):] {
				e.Retract(f.Id)
			}
		}
		apart(t, all)
		many += len(all)
	}
	if many < 40000 {
		t.Errorf("just %d", many)
	}
}

// P3: what is told of what was fired is the asker's own while its rule, and its facts, are still there.
func TestFiredIsOwn(t *testing.T) {
	b := ofText(t, "(rule r 0 ((as ?f (p (a ?x)))) ((print ?x) (print ?f))) (rule s 0 ((p (a ?x))) ((print ?x)))").comes("p 1 0", "p 2 0")
	fired, _ := b.e.Run(2)
	spoil(&fired)
	more, _ := b.e.Run(2)
	spoil(&more)
	for range 4 {
		b.m.run(1)
	}
	b.check()
	b.turns(1, "", 3).runs(1, api.StopFuel, "0 f=#3 x=1 #3 > 1 > #3: 2").sets(1, "x=2 #2", "x=1 #3")
}

// P1, P21.1 to P21.5: any programs and any calls end, without a panic, and are as another one tells them.
func FuzzCalls(f *testing.F) {
	f.Add("(template p (a num)) (rule r 0 ((as ?f (p (a ?x))) (not (p (a 2)))) ((modify ?f (a (+ ?x 1))) (print ?x)))", int64(1), "p", 1, "1", 1, []byte{0, 1, 2, 3, 4, 5, 6, 7, 8, 40, 41, 42, 43, 44, 45})
	f.Add(templates+"(rule r 0 ((let ?n sum ?x (?y) ((p (a ?x) (b ?y)))) (if < ?n 3)) ((assert p (a ?n) (b ?y)) (halt)))", int64(2), "u", 1, "1/2", math.MaxInt, []byte{2, 10, 18, 3, 11, 19, 2, 3, 77, 200, 255})
	f.Add("(rule r 0 () ((print (/ 1 0))))", int64(3), "", 9, "\xff", -1, []byte("one, and two, and three of them"))
	f.Add("(template p) (rule r 0 ((let ?g max ?f () ((as ?f (p))))) ((retract ?g) (assert p))) (rule s 1 ((as ?f (p)) (as ?g (p)) (if != ?f ?g)) ((retract ?f)))", int64(4), "p", 3, "a", 0, []byte{255, 254, 253, 252, 9, 8, 7, 6})
	f.Add("", int64(5), "w", 2, "x=1 #1", 999999999, []byte{})
	f.Fuzz(func(t *testing.T, text string, seed int64, tmpl string, kind int, s string, number int, steps []byte) {
		m := newMaker(t, seed)
		p, _, err := parse.Parse(text)
		if err == api.OK {
			_, err, _ = engine.New(p)
		}
		// Of long conditions all is worked out anew by the other one, which takes long.
		if err != api.OK || mostConds(p) > 6 {
			p = m.right(t, 3)
		}
		b, v := of(t, p), api.Value{Kind: kind, S: s}
		for i, x := range steps[:min(len(steps), 60)] {
			for len(b.m.facts) > max(1, 12-2*mostConds(p)) {
				b.retract(b.m.facts[int(x)%len(b.m.facts)].Id)
			}
			id := int(x / 8)
			if i%7 == 0 {
				id = number
			}
			switch x % 8 {
			case 0:
				b.assert(tmpl, []api.Value{v, v})
			case 1:
				b.modify(id, []api.Put{{Name: tmpl, V: v}})
			case 2:
				b.retract(id)
			case 3:
				b.run(min(id, 3))
			case 4, 5:
				if len(p.Tmpls) > 0 {
					b.assert(ofTemplate(m, p.Tmpls[int(x)%len(p.Tmpls)], v))
				}
			default:
				m.step(b)
			}
		}
		for i, r := range p.Rules {
			if got := b.query(r.Conds); !alikeRows(got, b.m.sets[i]) {
				t.Fatalf("got %s, want %s", brief(lines(got)), brief(lines(b.m.sets[i])))
			}
			for _, one := range b.e.Set(i) {
				if !bind.Right(one) {
					t.Fatalf("%s is not right", line(one))
				}
			}
		}
		b.empty()
	})
}

// mostConds is how many conditions, with those in others, the rule has that has most.
func mostConds(p api.Program) int {
	var all func(l []api.Cond) int
	all = func(l []api.Cond) int {
		many := len(l)
		for _, c := range l {
			many += all(c.Over)
		}
		return many
	}
	most := 0
	for _, r := range p.Rules {
		most = max(most, all(r.Conds))
	}
	return most
}

// ofTemplate is a fact of a template's own slots.
func ofTemplate(m maker, t api.Template, v api.Value) (string, []api.Value) {
	var vals []api.Value
	for _, x := range t.Slots {
		if x.Type != v.Kind || m.Intn(2) == 0 {
			v = m.value(x.Type)
		}
		vals = append(vals, v)
	}
	return t.Name, vals
}
