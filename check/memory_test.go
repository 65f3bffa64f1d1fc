package check_test

import (
	"reflect"
	"slices"
	"sync"
	"testing"
	"time"

	"tribunal/api"
	"tribunal/check"
	"tribunal/parse"
)

// roomy is a thing of the same, whose lists have spare room, in which something stands.
func roomy[T any](thing T) T {
	v := reflect.New(reflect.TypeOf(thing)).Elem()
	roomyIn(v, reflect.ValueOf(thing))
	return v.Interface().(T)
}

func roomyIn(to, from reflect.Value) {
	switch from.Kind() {
	case reflect.Struct:
		for i := range from.NumField() {
			roomyIn(to.Field(i), from.Field(i))
		}
	case reflect.Slice:
		room := reflect.MakeSlice(from.Type(), from.Len()+3, from.Len()+3)
		for i := range from.Len() {
			roomyIn(room.Index(i), from.Index(i))
		}
		for i := from.Len(); i < room.Len(); i++ {
			spoil(room.Index(i))
		}
		to.Set(room.Slice(0, from.Len()))
	default:
		to.Set(from)
	}
}

// spoil puts something into a thing's texts and numbers.
func spoil(v reflect.Value) {
	switch v.Kind() {
	case reflect.Struct:
		for i := range v.NumField() {
			spoil(v.Field(i))
		}
	case reflect.String:
		v.SetString("spare")
	case reflect.Int:
		v.SetInt(77)
	}
}

// whole is all that a thing's lists have, with their spare room, and where they stand.
func whole(v reflect.Value) any {
	switch v.Kind() {
	case reflect.Struct:
		var l []any
		for i := range v.NumField() {
			l = append(l, whole(v.Field(i)))
		}
		return l
	case reflect.Slice:
		l := []any{v.Len(), v.Cap(), v.Pointer()}
		for i := range v.Cap() {
			l = append(l, whole(v.Slice(0, v.Cap()).Index(i)))
		}
		return l
	}
	return v.Interface()
}

// answers is all that is told of a program whose templates are right.
type answers struct {
	Err, Place int
	Known      [][]api.Known
	Errs       []api.Errno
}

// ask calls all there is of a program; known is what is told to be known by all its actions beside what is.
func ask(t testing.TB, p api.Program, known []api.Known) answers {
	err, place := check.Check(p)
	a := answers{Err: int(err), Place: place}
	s := made(t, p.Tmpls)
	for _, r := range p.Rules {
		behind, err := check.Conds(s, r.Conds)
		a.Known, a.Errs = append(a.Known, slices.Clone(behind)), append(a.Errs, err)
		for _, act := range r.Acts {
			a.Errs = append(a.Errs, check.Act(s, behind, act), check.Act(s, known, act))
		}
	}
	return a
}

// somePrograms is programs whose templates are right, and whose rules are, or are not.
func somePrograms(t testing.TB, seed int64, many int) []api.Program {
	m := newMaker(seed, few(t))
	l := []api.Program{parsed(t, manySided), {Tmpls: few(t)}}
	for i := range many {
		p := copied(m.program())
		if i%2 == 0 {
			nearly(m, &p.Rules)
		}
		l = append(l, p)
	}
	return l
}

// P3: what is handed in is not changed, nor its spare room, also of lists in lists, right or wrong.
func TestNotChanged(t *testing.T) {
	for _, p := range somePrograms(t, 7, 300) {
		room, known := roomy(p), roomy(untold(aheadKnown))
		was, wasKnown := whole(reflect.ValueOf(room)), whole(reflect.ValueOf(known))
		got := ask(t, room, known)
		if !reflect.DeepEqual(whole(reflect.ValueOf(room)), was) || !reflect.DeepEqual(whole(reflect.ValueOf(known)), wasKnown) {
			t.Fatalf("%s: changed, or its spare room", brief(p))
		}
		if want := ask(t, p, untold(aheadKnown)); !reflect.DeepEqual(got, want) {
			t.Fatalf("%s: got %s, without spare room %s", brief(p), brief(got), brief(want))
		}
	}
}

// P3: what is handed in is not kept: the same is told again, whatever is asked between, and of what is handed in then.
func TestSameAgain(t *testing.T) {
	l := somePrograms(t, 8, 400)
	for i, p := range l {
		first := ask(t, p, nil)
		other := copied(p)
		ask(t, l[(i+7)%len(l)], untold(aheadKnown))
		if again := ask(t, p, nil); !reflect.DeepEqual(again, first) {
			t.Fatalf("%s: got %s, then %s", brief(p), brief(first), brief(again))
		}
		for j := range p.Rules {
			p.Rules[j] = api.Rule{Name: "spoilt"}
		}
		if again := ask(t, other, nil); !reflect.DeepEqual(again, first) {
			t.Fatalf("%s: got %s, then %s", brief(other), brief(first), brief(again))
		}
		held(t, p)
	}
}

// P3: what Conds tells is the asker's own, its spare room too: changed, and grown, nothing is told otherwise behind that, by the same schema; and the schema tells what it told.
func TestKnownIsOwn(t *testing.T) {
	s := made(t, few(t))
	for _, p := range somePrograms(t, 9, 300) {
		for _, r := range p.Rules {
			first, err := check.Conds(s, r.Conds)
			other, _ := check.Conds(s, r.Conds)
			want := slices.Clone(first)
			for i := range first[:cap(first)] {
				first[:cap(first)][i] = api.Known{Name: "spoilt", Type: 77, Tmpl: "spoilt"}
			}
			again, againErr := check.Conds(s, r.Conds)
			if !slices.Equal(again, want) || !slices.Equal(other, want) || againErr != err {
				t.Fatalf("%s: got %s and %s, want %s", brief(r), told(other), told(again), told(want))
			}
		}
	}
	if !reflect.DeepEqual(s.List(), few(t)) {
		t.Errorf("the schema is %v", s.List())
	}
}

// P3: what Conds tells does not hang on the conditions any more, once it is told.
func TestConditionsAreNotKept(t *testing.T) {
	s := made(t, few(t))
	l := rows(t, "(as ?f (a (n ?x))) (let ?v max ?g (?s) ((as ?g (c (s ?s)))))")
	got, _ := check.Conds(s, l)
	l[0].As, l[0].Pat.Tmpl, l[0].Pat.Slots[0].T.Var = "spoilt", "d", "spoilt"
	l[1].By[0], l[1].Var, l[1].Over[0].Pat.Tmpl = "spoilt", "spoilt", "d"
	if told(got) != "x num, f id a, s sym, v id c" {
		t.Errorf("got %s", told(got))
	}
}

// P3: calls beside one another, by one schema, tell what each tells alone.
func TestBeside(t *testing.T) {
	s, p := made(t, few(t)), parsed(t, manySided)
	want, _ := check.Conds(s, p.Rules[0].Conds)
	var all sync.WaitGroup
	for range 8 {
		all.Go(func() {
			for range 200 {
				got, err := check.Conds(s, p.Rules[0].Conds)
				if !slices.Equal(got, want) || err != api.OK {
					t.Errorf("got %s, %d, want %s", told(got), err, told(want))
				}
				for _, a := range p.Rules[0].Acts {
					if err := check.Act(s, want, a); err != api.OK {
						t.Errorf("%s: %d", brief(a), err)
					}
				}
				if err, _ := check.Check(p); err != api.OK {
					t.Errorf("got %d", err)
				}
			}
		})
	}
	all.Wait()
}

// P1: very long and very deep things are told at once.
func TestVeryLong(t *testing.T) {
	begin := time.Now()
	e, l := at("x"), rows(t, "(a (n ?x))")
	for range 200000 {
		e = op("+", val(api.Num, "1"), e)
		l = []api.Cond{{Kind: api.CondLet, Var: "x", Fold: "max", Arg: "x", Over: l}}
	}
	wrongOf(t, l, api.ErrTooMany)
	wrongOf(t, []api.Cond{{Kind: api.CondIf, Op: "<", A: e, B: e}}, api.ErrForm)
	doingOf(t, nil, api.Act{Kind: api.ActPrint, E: e}, api.ErrForm)
	slots := slices.Repeat([]api.Slot{{Name: "n", T: api.Term{Var: "x"}}}, 200000)
	wrongOf(t, []api.Cond{{Kind: api.CondPat, Pat: api.Pat{Tmpl: "a", Slots: slots}}}, api.ErrArg)
	by := slices.Repeat([]string{"x"}, 200000)
	wrongOf(t, []api.Cond{{Kind: api.CondLet, Var: "v", Fold: "max", Arg: "x", By: by, Over: rows(t, "(a (n ?x))")}}, api.ErrThere)
	name := times("a", 1<<20)
	wrongOf(t, []api.Cond{{Kind: api.CondPat, As: name, Pat: api.Pat{Tmpl: "a"}}}, api.ErrForm)
	wrongOf(t, []api.Cond{{Kind: api.CondIf, Op: name}}, api.ErrForm)
	var known []api.Known
	for _, name := range numbered(100000, "x%d") {
		known = append(known, api.Known{Name: name, Type: api.Num})
	}
	doingOf(t, known, api.Act{Kind: api.ActPrint, E: at("x99999")}, api.OK)
	doingOf(t, known, api.Act{Kind: api.ActPrint, E: at("x100000")}, api.ErrNone)
	if took := time.Since(begin); took > time.Minute {
		t.Errorf("%v", took)
	}
}

// P1: programs with anything in each place end, without a panic, whatever their kinds; what is told is what another one tells.
func TestAnything(t *testing.T) {
	full := parsed(t, manySided)
	m := newMaker(10, few(t))
	for range 1500 {
		p := copied(full)
		for range 3 {
			nearly(m, &p)
		}
		if len(p.Rules) == 0 {
			continue
		}
		c := copied(one(m, p.Rules...))
		c.Conds = append(c.Conds, copied(one(m, full.Rules...)).Conds...)
		for i := range c.Conds {
			c.Conds[i].Kind = m.Intn(6)
		}
		for i := range c.Acts {
			c.Acts[i].Kind = m.Intn(7)
		}
		held(t, api.Program{Tmpls: few(t), Rules: []api.Rule{c}})
		held(t, p)
	}
}

// P1, P13.1, P13.2: any text that is parsed, and any texts and numbers at any places of a program, are told as another one tells them.
func FuzzCheck(f *testing.F) {
	f.Add(manySided, "x", "", int64(1), 3, []byte{1, 2, 3})
	f.Add("(template a (n num)) (rule r 0 ((a (n ?x))) ((print ?x)))", "let", "none", int64(2), -1001, []byte{200, 7})
	f.Add("(rule r 0 ((let ?v sum ?x (?y) ((not (a)) (if < 1 2)))) ((assert a) (modify ?f (n 1)) (retract ?f) (halt)))", "X", "\xff", int64(3), 5, []byte{})
	f.Fuzz(func(t *testing.T, text, a, b string, seed int64, n int, code []byte) {
		if p, _, err := parse.Parse(text); err == api.OK {
			held(t, p)
		}
		p := newMaker(seed, few(t)).program()
		full := parsed(t, manySided)
		p.Rules = append(full.Rules, p.Rules[:min(1, len(p.Rules))]...)
		for i, c := range code[:min(len(code), 6)] {
			l := places(reflect.ValueOf(&p.Rules).Elem())
			v := l[(int(c)*37+i*101)%len(l)]
			switch v.Kind() {
			case reflect.String:
				v.SetString([]string{a, b, a + b, "x", "n"}[int(c)%5])
			case reflect.Int:
				v.SetInt(int64(n))
			case reflect.Slice:
				v.SetLen(v.Len() / 2)
			}
		}
		held(t, p)
	})
}
