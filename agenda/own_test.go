package agenda_test

import (
	"cmp"
	"reflect"
	"runtime"
	"slices"
	"testing"

	"tribunal/agenda"
	"tribunal/api"
)

// What stands in spare room, and what is put in place of what was handed in, or told.
func strangeBind() api.Bind { return api.Bind{Name: "strange", V: value(77, "strange")} }

func strangeTuple() api.Tuple {
	return api.Tuple{Binds: []api.Bind{strangeBind()}, Ids: []int{-77}}
}

func strangeChange() api.Change { return api.Change{Rule: -77, T: strangeTuple()} }

// roomy is l in memory of its own, with spare room, in which something stands.
func roomy[T any](l []T, strange T) []T {
	all := make([]T, len(l)+3)
	for i := range all {
		all[i] = strange
	}
	copy(all, l)
	return all[:len(l)]
}

func roomyChange(c api.Change) api.Change {
	c.T = api.Tuple{Binds: roomy(c.T.Binds, strangeBind()), Ids: roomy(c.T.Ids, -77)}
	return c
}

// wholeTuple is a tuple with its lists' spare room.
func wholeTuple(t api.Tuple) api.Tuple {
	return api.Tuple{Binds: t.Binds[:cap(t.Binds)], Ids: t.Ids[:cap(t.Ids)]}
}

// spoil puts something into all of a list, and into its spare room.
func spoil[T any](l []T, strange T) {
	l = l[:cap(l)]
	for i := range l {
		l[i] = strange
	}
}

func spoilTuple(t api.Tuple) {
	spoil(t.Binds, strangeBind())
	spoil(t.Ids, -77)
}

func spoilChanges(l []api.Change) {
	for _, c := range l {
		spoilTuple(c.T)
	}
	spoil(l, strangeChange())
}

// spoiled tells whether what was spoiled still stands as it was spoiled.
func spoiled(t api.Tuple) bool {
	w := wholeTuple(t)
	return !slices.ContainsFunc(w.Binds, func(b api.Bind) bool { return b != strangeBind() }) && !slices.ContainsFunc(w.Ids, func(id int) bool { return id != -77 })
}

// ownTuple is a tuple in memory of its own; ownChange and ownChanges are changes likewise.
func ownTuple(t api.Tuple) api.Tuple {
	return api.Tuple{Binds: slices.Clone(t.Binds), Ids: slices.Clone(t.Ids)}
}

func ownChange(c api.Change) api.Change {
	c.T = ownTuple(c.T)
	return c
}

func ownChanges(l []api.Change) []api.Change {
	l = slices.Clone(l)
	for i := range l {
		l[i] = ownChange(l[i])
	}
	return l
}

// listsOf is all lists of an answer: the rows, and each tuple's Binds and Ids.
func listsOf(l []api.Change) []any {
	all := []any{l}
	for _, c := range l {
		all = append(all, c.T.Binds, c.T.Ids)
	}
	return all
}

// span is where a list stands, with its spare room.
type span struct{ from, to uintptr }

// apart fails, if two of those lists share memory. It takes all of them at once, as memory that no one has any more may be had again.
func apart(t *testing.T, lists []any) {
	t.Helper()
	var l []span
	for _, one := range lists {
		if v := reflect.ValueOf(one); v.Cap() > 0 {
			l = append(l, span{v.Pointer(), v.Pointer() + uintptr(v.Cap())*v.Type().Elem().Size()})
		}
	}
	slices.SortFunc(l, func(x, y span) int { return cmp.Compare(x.from, y.from) })
	for i := 1; i < len(l); i++ {
		if l[i].from < l[i-1].to {
			t.Fatalf("two lists share memory: %x and %x", l[i-1], l[i])
		}
	}
	runtime.KeepAlive(lists)
}

// P3: what Change was handed is not changed, nor its spare room, by any call; nor is it kept: changed by the one who gave it, nothing is told otherwise.
func TestGivenIsNotKept(t *testing.T) {
	m := newMaker(30)
	for range 60 {
		b := newBoth(t, m.saliences()...)
		var given []api.Tuple
		for range 60 {
			c := roomyChange(m.change(b.m))
			was := ownTuple(wholeTuple(c.T))
			b.change(c)
			if !alike(wholeTuple(c.T), was) {
				t.Fatalf("%s became %s", brief(was), brief(wholeTuple(c.T)))
			}
			if m.Intn(3) == 0 {
				b.fire()
				if !alike(wholeTuple(c.T), was) {
					t.Fatalf("%s became %s", brief(was), brief(wholeTuple(c.T)))
				}
			}
			spoilTuple(c.T)
			b.check()
			given = append(given, c.T)
		}
		for b.fire() {
			continue
		}
		if slices.ContainsFunc(given, func(one api.Tuple) bool { return !spoiled(one) }) {
			t.Fatal("what was given is changed")
		}
	}
}

// P3: the saliences that New was handed are not changed, nor their spare room, nor kept.
func TestSaliencesAreNotKept(t *testing.T) {
	m := newMaker(31)
	for range 60 {
		mine := m.saliences()
		given := roomy(mine, 77)
		whole := given[:cap(given)]
		b := &both{t: t, a: agenda.New(given), m: newModel(mine)}
		was := slices.Clone(whole)
		for range 20 {
			m.step(b)
		}
		if !slices.Equal(whole, was) {
			t.Fatalf("%v became %v", was, whole)
		}
		for i := range whole {
			whole[i] = -m.Intn(1000)
		}
		b.check()
		was = slices.Clone(whole)
		for range 20 {
			m.step(b)
		}
		b.changes(put(len(mine), api.Tuple{}), false)
		if !slices.Equal(whole, was) {
			t.Fatalf("%v became %v", was, whole)
		}
	}
}

// P3: what Ahead was handed is not changed, nor its spare room.
func TestAheadChangesNothing(t *testing.T) {
	m := newMaker(32)
	for range 3000 {
		saliences := roomy(m.saliences(), 77)
		whole := saliences[:cap(saliences)]
		a := roomyChange(put(m.rule(len(saliences)), m.tuple()))
		b := roomyChange(put(m.rule(len(saliences)), m.tuple()))
		if m.Intn(4) == 0 {
			b = a
		}
		wasSaliences, wasA, wasB := slices.Clone(whole), ownTuple(wholeTuple(a.T)), ownTuple(wholeTuple(b.T))
		first, second := agenda.Ahead(saliences, a, b), agenda.Ahead(saliences, a, b)
		if first != second || !slices.Equal(whole, wasSaliences) || !alike(wholeTuple(a.T), wasA) || !alike(wholeTuple(b.T), wasB) {
			t.Fatalf("%v, %s and %s", saliences, line(a), line(b))
		}
	}
}

// P3: one tuple's lists, changed between, may be handed in for each call.
func TestGivenOfOneList(t *testing.T) {
	b := newBoth(t, 0, 1)
	one := tuple("x=1 y=2 #1 #2")
	for i := range 20 {
		one.Binds[0].V, one.Ids[0] = read([]string{"1", "2", "'a"}[i%3]), i%5+1
		b.change(put(0, one))
		b.change(put(1, api.Tuple{Binds: one.Binds[:1], Ids: one.Ids[1:]}))
		b.change(put(0, api.Tuple{Binds: one.Binds[1:], Ids: one.Ids[:1]}))
	}
	b.fire()
	if len(b.m.l) != 15+3+5 {
		t.Fatalf("got %d", len(b.m.l))
	}
	for _, c := range b.m.holds() {
		b.changes(drop(c.Rule, c.T), true)
	}
	b.tells(0)
}

// P3: what List and Next tell is the asker's own: changed by who asked, nothing is told otherwise behind that, and what was told ahead stays.
func TestToldIsOwn(t *testing.T) {
	m := newMaker(33)
	for range 60 {
		b := newBoth(t, m.saliences()...)
		for range 40 {
			m.step(b)
			first, other := b.a.List(), b.a.List()
			next, _ := b.a.Next()
			again, _ := b.a.Next()
			want, wantNext := ownChanges(other), ownChange(again)
			spoilChanges(first)
			spoilTuple(next.T)
			if !alikeChanges(other, want) || !alikeChange(again, wantNext) {
				t.Fatalf("got %s, and then %s", brief(lines(want)), brief(lines(other)))
			}
			b.check()
			spoilChanges(other)
			spoilTuple(again.T)
			b.check()
		}
		for b.fire() {
			c, _ := b.a.Next()
			spoilTuple(c.T)
			spoilChanges(b.a.List())
		}
	}
}

// P3: what was told stays as it was, whatever is called behind it, and whatever is done to what is told then.
func TestToldStays(t *testing.T) {
	m := newMaker(34)
	for range 20 {
		b := newBoth(t, m.saliences()...)
		var told, want [][]api.Change
		for range 40 {
			m.step(b)
			next, _ := b.a.Next()
			l := append(b.a.List(), next)
			told, want = append(told, l), append(want, ownChanges(l))
			m.step(b)
			spoilChanges(b.a.List())
		}
		for i := range told {
			if !alikeChanges(told[i], want[i]) {
				t.Fatalf("%d: got %s, want %s", i, brief(lines(told[i])), brief(lines(want[i])))
			}
		}
	}
}

// P3: no list of an answer shares memory with an argument, with another answer, or with another list of the same answer.
func TestApart(t *testing.T) {
	m, many := newMaker(35), 0
	for range 30 {
		saliences := roomy(m.saliences(), 77)
		a, w := agenda.New(saliences), newModel(saliences)
		all := []any{saliences}
		for range 40 {
			c := roomyChange(m.change(w))
			all = append(all, c.T.Binds, c.T.Ids)
			a.Change(c)
			w.change(c)
			if m.Intn(5) == 0 {
				a.Fire()
			}
			next, _ := a.Next()
			again, _ := a.Next()
			all = append(all, next.T.Binds, next.T.Ids, again.T.Binds, again.T.Ids)
			all = slices.Concat(all, listsOf(a.List()), listsOf(a.List()))
		}
		apart(t, all)
		many += len(all)
	}
	if many < 20000 {
		t.Errorf("just %d", many)
	}
}
