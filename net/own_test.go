package net_test

import (
	"math"
	"testing"

	"tribunal/api"
	"tribunal/bind"
	"tribunal/net"
	"tribunal/parse"
)

// P3: what New was handed is not changed, nor its spare room, be it a program that may be or not; nor is it kept: changed by the one who gave it, also once facts have come, nothing is told otherwise.
func TestProgramIsNotKept(t *testing.T) {
	m := newMaker(t, 40)
	for range 150 {
		p := m.right(t, 4)
		given := roomy(p)
		n, other := net.New(given), of(t, p)
		was := whole(given)
		for i := range 30 {
			f, id := m.fact(), m.number()
			if got, want := n.Add(f), other.add(f); !alikeChanges(got, want) {
				t.Fatalf("%s: got %s, want %s", brief(p), brief(told(got)), brief(told(want)))
			}
			if got, want := n.Del(id), other.del(id); !alikeChanges(got, want) {
				t.Fatalf("%s: got %s, want %s", brief(p), brief(told(got)), brief(told(want)))
			}
			if i == 10 && whole(given) != was {
				t.Fatalf("%s: changed, or its spare room", brief(p))
			}
			if i == 10 {
				spoil(&given)
				was = whole(given)
			}
			for k := range p.Rules {
				if !alikeRows(n.Set(k), other.last[k]) {
					t.Fatalf("%s: got %s, want %s", brief(p), brief(lines(n.Set(k))), brief(lines(other.last[k])))
				}
			}
		}
		if whole(given) != was {
			t.Fatalf("%s: what was spoilt is changed", brief(p))
		}
	}
	for i, w := range append(wrongTemplates(t), wrongRules(t)...) {
		given := roomy(w.p)
		was := whole(given)
		net.New(given)
		if whole(given) != was {
			t.Fatalf("%d: changed, or its spare room", i)
		}
	}
}

// P3: expressions deep in a test are not kept: changed once the net is there, the test holds as ahead.
func TestTestIsNotKept(t *testing.T) {
	p := program(t, "(p (a ?x) (b ?y)) (if < (+ (* ?x 2) (- ?y 1)) (/ (+ ?x ?y) (+ 1 (* 1 1))))")
	n := net.New(p)
	c := p.Rules[0].Conds[1]
	c.A.L[0].L[1].T.V.S, c.A.L[1].L[0].T.Var, c.A.L[0].Op, c.A.L[0].L[0] = "7", "x", "/", c.A.L[1]
	c.B.L[1].L[1].L[0].T.V.S, c.B.L[0] = "8", c.B.L[1]
	p.Rules[0].Conds[1].Op = ">"
	if got := told(n.Add(fact("1 p -5 1"))); len(got) != 1 || got[0] != "+0 x=-5 y=1 #1" {
		t.Errorf("got %s", got)
	}
	if got := told(n.Add(fact("2 p 5 1"))); len(got) > 0 {
		t.Errorf("got %s", got)
	}
}

// P3: one fact's values, changed between, may be handed in for each call.
func TestFactsOfOneList(t *testing.T) {
	b := ofText(t, "(p (a ?x) (b ?y))", "(let ?n sum ?x () ((p (a ?x))))")
	f := fact("1 p 1 1")
	for i := range 5 {
		f.Id, f.Vals[0], f.Vals[1] = i+1, num([]string{"1", "2", "1/2", "0", "5"}[i]), num("7")
		b.n.Add(f)
		b.m.add(f)
	}
	b.check()
	b.tells(1, "n=17/2")
	b.empty()
}

// P3: changes, and the lists of their tuples, are the asker's own: changed by who asked, nothing is told otherwise behind that.
func TestChangesAreOwn(t *testing.T) {
	m := newMaker(t, 41)
	for range 120 {
		b := of(t, m.right(t, 4))
		for range 30 {
			got := m.step(b)
			spoil(&got)
			b.check()
		}
		for len(b.m.facts) > 0 {
			got := b.del(b.m.facts[0].Id)
			spoil(&got)
			b.check()
		}
	}
}

// P3: what Set and Query tell is the asker's own: changed by who asked, nothing is told otherwise behind that, and what was told ahead stays.
func TestRowsAreOwn(t *testing.T) {
	m := newMaker(t, 42)
	for range 120 {
		b := of(t, m.right(t, 3))
		for range 20 {
			m.step(b)
			for i, r := range b.m.p.Rules {
				first, other := b.n.Set(i), b.n.Set(i)
				third, _ := net.Query(b.m.p.Tmpls, b.m.facts, r.Conds)
				want := copied(other)
				spoil(&first)
				if !alikeRows(other, want) || !alikeRows(third, want) {
					t.Fatalf("got %s, and then %s", brief(lines(want)), brief(lines(other)))
				}
				spoil(&other)
				spoil(&third)
				if got, _ := net.Query(b.m.p.Tmpls, b.m.facts, r.Conds); !alikeRows(got, want) {
					t.Fatalf("got %s, and then %s", brief(lines(want)), brief(lines(got)))
				}
			}
			b.check()
		}
	}
}

// P3: what was told stays as it was, whatever is told behind it, and whatever is done to that.
func TestToldStays(t *testing.T) {
	m := newMaker(t, 43)
	for range 60 {
		b := of(t, m.right(t, 3))
		var all, want []any
		for range 20 {
			got, rows := m.step(b), b.n.Set(0)
			all, want = append(all, got, rows), append(want, whole(got), whole(rows))
			more, others := m.step(b), b.n.Set(0)
			spoil(&more)
			spoil(&others)
		}
		for i := range all {
			if whole(all[i]) != want[i] {
				t.Fatalf("%d: got %s, want %s", i, brief(whole(all[i])), brief(want[i]))
			}
		}
	}
}

// P3: no list of an answer shares memory with an argument, with another answer, or with another list of the same answer; also of rules that hold for the same.
func TestApart(t *testing.T) {
	m, many := newMaker(t, 44), 0
	for range 120 {
		p := m.right(t, 3)
		p.Rules = append(p.Rules, copied(p.Rules)...)
		for i := range p.Rules {
			p.Rules[i].Name = "r" + string(rune('a'+i))
		}
		given := roomy(p)
		n := net.New(given)
		all := lists(given)
		var few []api.Fact
		for range 25 {
			f := roomy(m.fact())
			few = append(few, f)
			all = append(all, lists(f)...)
			all = append(all, lists(n.Add(f))...)
			all = append(all, lists(n.Set(m.Intn(len(p.Rules))))...)
			all = append(all, lists(n.Set(m.Intn(len(p.Rules))))...)
			if m.Intn(3) == 0 {
				all = append(all, lists(n.Del(m.number()))...)
			}
		}
		for range 2 {
			rows, _ := net.Query(given.Tmpls, few, given.Rules[0].Conds)
			all = append(all, lists(rows)...)
		}
		apart(t, all)
		many += len(all)
	}
	if many < 40000 {
		t.Errorf("just %d", many)
	}
}

// P1, P19.1 to P19.5: any programs and any calls end, without a panic, and are as another one tells them.
func FuzzCalls(f *testing.F) {
	f.Add("(template p (a num)) (rule r 0 ((p (a ?x)) (not (p (a 2)))) ())", int64(1), "p", 1, "1", 1, []byte{0, 1, 2, 3, 4, 5, 6, 7, 8, 40, 41, 42, 43, 44, 45})
	f.Add(templates+"(rule r 0 ((let ?n sum ?x (?y) ((p (a ?x) (b ?y)))) (if < ?n 3)) ())", int64(2), "u", 1, "1/2", math.MaxInt, []byte{2, 10, 18, 3, 11, 19, 2, 3, 77, 200, 255})
	f.Add("(rule r 0 () ())", int64(3), "", 9, "\xff", -1, []byte("one, and two, and three of them"))
	f.Add("(template p) (rule r 0 ((let ?n count ?f () ((as ?f (p))))) ()) (rule s 0 ((as ?f (p)) (as ?g (p)) (if != ?f ?g)) ())", int64(4), "p", 3, "a", 0, []byte{255, 254, 253, 252, 9, 8, 7, 6})
	f.Add("", int64(5), "w", 2, "x=1 #1", 999999999, []byte{})
	f.Fuzz(func(t *testing.T, text string, seed int64, tmpl string, kind int, s string, id int, steps []byte) {
		m := newMaker(t, seed)
		p, _, err := parse.Parse(text)
		if err != api.OK || net.New(p) == nil {
			p = m.right(t, 3)
		}
		most := 0
		for _, r := range p.Rules {
			most = max(most, allConds(r.Conds))
		}
		b, v := of(t, p), api.Value{Kind: kind, S: s}
		for i, x := range steps[:min(len(steps), 80)] {
			// Of long conditions just a few facts, as all is worked out anew by the other one.
			if len(b.m.facts) > max(1, 14-2*most) {
				b.del(b.m.facts[int(x)%len(b.m.facts)].Id)
			}
			number := int(x/8) - 2
			if i%7 == 0 {
				number = id
			}
			switch x % 8 {
			case 0:
				b.add(api.Fact{Id: number, Tmpl: tmpl, Vals: []api.Value{v, v}})
			case 1:
				b.add(api.Fact{Id: number, Tmpl: tmpl})
			case 2:
				b.del(number)
			case 3, 4:
				if len(p.Tmpls) > 0 {
					b.add(ofTemplate(m, p.Tmpls[int(x)%len(p.Tmpls)], number, v))
				}
			default:
				m.step(b)
			}
		}
		for i, r := range p.Rules {
			if got, err := asked(t, p.Tmpls, b.m.facts, r.Conds); err != api.OK || !alikeRows(got, b.last[i]) {
				t.Fatalf("got %s, %d, want %s", brief(lines(got)), err, brief(lines(b.last[i])))
			}
			for _, one := range b.last[i] {
				if !bind.Right(one) {
					t.Fatalf("%s is not right", line(one))
				}
			}
		}
		b.empty()
	})
}

// ofTemplate is a fact of a template's own slots.
func ofTemplate(m maker, t api.Template, id int, v api.Value) api.Fact {
	f := api.Fact{Id: id, Tmpl: t.Name}
	for _, x := range t.Slots {
		if x.Type != v.Kind || m.Intn(2) == 0 {
			v = m.value(x.Type)
		}
		f.Vals = append(f.Vals, v)
	}
	return f
}
