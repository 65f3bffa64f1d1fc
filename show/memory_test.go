package show_test

import (
	"reflect"
	"sync"
	"testing"

	"tribunal/api"
	"tribunal/parse"
	"tribunal/show"
)

// roomy is a thing of the same, whose lists have spare room, in which something stands.
func roomy[T any](thing T) T {
	v := reflect.New(reflect.TypeOf(thing)).Elem()
	roomyIn(v, reflect.ValueOf(thing), 0)
	return v.Interface().(T)
}

func roomyIn(to, from reflect.Value, deep int) {
	switch from.Kind() {
	case reflect.Struct:
		for i := range from.NumField() {
			roomyIn(to.Field(i), from.Field(i), deep)
		}
	case reflect.Slice:
		room := reflect.MakeSlice(from.Type(), from.Len()+2, from.Len()+2)
		for i := range from.Len() {
			roomyIn(room.Index(i), from.Index(i), deep+1)
		}
		for i := from.Len(); i < room.Len(); i++ {
			fill(room.Index(i))
		}
		to.Set(room.Slice(0, from.Len()))
	default:
		to.Set(from)
	}
}

// fill puts something into a thing's texts and numbers.
func fill(v reflect.Value) {
	switch v.Kind() {
	case reflect.Struct:
		for i := range v.NumField() {
			fill(v.Field(i))
		}
	case reflect.String:
		v.SetString("spare")
	case reflect.Int:
		v.SetInt(77)
	}
}

// whole is all that a thing's lists have, with their spare room.
func whole(v reflect.Value) any {
	switch v.Kind() {
	case reflect.Struct:
		var l []any
		for i := range v.NumField() {
			l = append(l, whole(v.Field(i)))
		}
		return l
	case reflect.Slice:
		l := []any{v.Len(), v.Cap(), v.Pointer()}
		for i := range v.Cap() {
			l = append(l, whole(v.Slice(0, v.Cap()).Index(i)))
		}
		return l
	}
	return v.Interface()
}

// askAll calls all there is of a program; what was told.
func askAll(p api.Program) []string {
	told := []string{show.Show(p)}
	for _, r := range p.Rules {
		told = append(told, show.Rule(r))
		for _, c := range r.Conds {
			told = append(told, show.Cond(c), show.Expr(c.A), show.Expr(c.B))
		}
		for _, a := range r.Acts {
			told = append(told, show.Act(a), show.Expr(a.E))
		}
	}
	if show.Same(p, p) {
		told = append(told, "same")
	}
	return told
}

// P3: what is handed in is not changed, nor its spare room.
func TestNotChanged(t *testing.T) {
	programs := []api.Program{fullProgram(), {}}
	for _, m := range []maker{newMaker(9), newWildMaker(10)} {
		for range 100 {
			programs = append(programs, m.program())
		}
	}
	for _, p := range programs {
		room, other := roomy(p), roomy(p)
		was, otherWas := whole(reflect.ValueOf(room)), whole(reflect.ValueOf(other))
		askAll(room)
		show.Same(room, other)
		show.Same(other, p)
		if !reflect.DeepEqual(whole(reflect.ValueOf(room)), was) || !reflect.DeepEqual(whole(reflect.ValueOf(other)), otherWas) {
			t.Fatalf("%s: changed, or its spare room", brief(p))
		}
	}
}

// P3: what is handed in is not kept: with it changed, or with others asked of in between, the answers are those of what is handed in then.
func TestSameAgain(t *testing.T) {
	for _, m := range []maker{newMaker(11), newWildMaker(12)} {
		for range 300 {
			p, other := m.program(), m.program()
			first, q := askAll(p), copied(p)
			askAll(other)
			show.Same(p, other)
			if again := askAll(p); !reflect.DeepEqual(again, first) {
				t.Fatalf("%s: got %s, then %s", brief(p), brief(first), brief(again))
			}
			for i := range p.Rules {
				p.Rules[i] = api.Rule{Name: "spoilt"}
			}
			is(t, show.Show(p), told(p))
			is(t, first[0], told(q))
			checkSame(t, p, q, same(p, q))
		}
	}
}

// P3: calls beside one another, of the same program, tell what each tells alone.
func TestBeside(t *testing.T) {
	p := fullProgram()
	want := askAll(p)
	var all sync.WaitGroup
	for range 8 {
		all.Go(func() {
			for range 30 {
				if got := askAll(p); !reflect.DeepEqual(got, want) {
					t.Errorf("got %s, want %s", brief(got), brief(want))
				}
			}
		})
	}
	all.Wait()
}

// P1, P12.1: programs such as no text has end, without a panic, and are told as another one tells them.
func TestWild(t *testing.T) {
	m := newWildMaker(13)
	for range 3000 {
		p := m.program()
		is(t, show.Show(p), told(p))
		for _, r := range p.Rules {
			is(t, show.Rule(r), toldRule(r))
			for _, c := range r.Conds {
				is(t, show.Cond(c), toldCond(c))
				is(t, show.Expr(c.A), toldExpr(c.A))
			}
			for _, a := range r.Acts {
				is(t, show.Act(a), toldAct(a))
			}
		}
	}
}

// P12.2, P12.3: any two texts that are parsed are shown so that they are parsed again, and are the same just if they are shown alike; P1: a program with any text as its names is shown.
func FuzzShow(f *testing.F) {
	m := newMaker(14)
	for _, s := range samples() {
		f.Add(s, m.text())
	}
	for range 50 {
		f.Add(m.text(), m.text())
	}
	f.Fuzz(func(t *testing.T, s, other string) {
		_, _, err := parse.Parse(s)
		_, _, err2 := parse.Parse(other)
		if err == api.OK && err2 == api.OK {
			checkSame(t, checkBack(t, s), checkBack(t, other), inLines(s) == inLines(other))
		}
		p, q := fullProgram(), fullProgram()
		p.Rules[0].Conds[1].As, q.Rules[0].Conds[1].As = s, other
		p.Rules[0].Acts[1].Fills[0].E.T.V.S, q.Rules[0].Acts[1].Fills[0].E.T.V.S = other, s
		is(t, show.Show(p), told(p))
		is(t, show.Show(q), told(q))
		checkSame(t, p, q, s == other)
	})
}
