package group_test

import (
	"cmp"
	"reflect"
	"runtime"
	"slices"
	"testing"

	"tribunal/api"
	"tribunal/bind"
	"tribunal/group"
)

// What stands in spare room, and what is put in place of what was handed in, or told.
func strangeBind() api.Bind { return api.Bind{Name: "strange", V: value(77, "strange")} }

func strangeTuple() api.Tuple {
	return api.Tuple{Binds: []api.Bind{strangeBind()}, Ids: []int{-77}}
}

// roomy is l in memory of its own, with spare room, in which something stands.
func roomy[T any](l []T, strange T) []T {
	all := make([]T, len(l)+3)
	for i := range all {
		all[i] = strange
	}
	copy(all, l)
	return all[:len(l)]
}

func roomyTuple(t api.Tuple) api.Tuple {
	return api.Tuple{Binds: roomy(t.Binds, strangeBind()), Ids: roomy(t.Ids, -77)}
}

// wholeTuple is a tuple with its lists' spare room.
func wholeTuple(t api.Tuple) api.Tuple {
	return api.Tuple{Binds: t.Binds[:cap(t.Binds)], Ids: t.Ids[:cap(t.Ids)]}
}

// spoil puts something into all of a list, and into its spare room.
func spoil[T any](l []T, strange T) {
	l = l[:cap(l)]
	for i := range l {
		l[i] = strange
	}
}

func spoilTuple(t api.Tuple) {
	spoil(t.Binds, strangeBind())
	spoil(t.Ids, -77)
}

func spoilTuples(l []api.Tuple) {
	for _, t := range l {
		spoilTuple(t)
	}
	spoil(l, strangeTuple())
}

func spoilDeltas(l []api.Delta) {
	for _, d := range l {
		spoilTuple(d.T)
	}
	spoil(l, put(strangeTuple()))
}

// spoiled tells whether what was spoiled still stands as it was spoiled.
func spoiled(t api.Tuple) bool {
	w := wholeTuple(t)
	return !slices.ContainsFunc(w.Binds, func(b api.Bind) bool { return b != strangeBind() }) && !slices.ContainsFunc(w.Ids, func(id int) bool { return id != -77 })
}

// ownTuple is a tuple in memory of its own; own and ownTuples are deltas, and tuples, likewise.
func ownTuple(t api.Tuple) api.Tuple {
	return api.Tuple{Binds: slices.Clone(t.Binds), Ids: slices.Clone(t.Ids)}
}

func own(l []api.Delta) []api.Delta {
	l = slices.Clone(l)
	for i := range l {
		l[i].T = ownTuple(l[i].T)
	}
	return l
}

func ownTuples(l []api.Tuple) []api.Tuple {
	l = slices.Clone(l)
	for i := range l {
		l[i] = ownTuple(l[i])
	}
	return l
}

// ofTuples is all lists of an answer: the rows, and each tuple's Binds and Ids; ofDeltas likewise.
func ofTuples(l []api.Tuple) []any {
	all := []any{l}
	for _, t := range l {
		all = append(all, t.Binds, t.Ids)
	}
	return all
}

func ofDeltas(l []api.Delta) []any {
	all := []any{l}
	for _, d := range l {
		all = append(all, d.T.Binds, d.T.Ids)
	}
	return all
}

// span is where a list stands, with its spare room.
type span struct{ from, to uintptr }

// apart fails, if two of those lists share memory. It takes all of them at once, as memory that no one has any more may be had again.
func apart(t *testing.T, lists []any) {
	t.Helper()
	var l []span
	for _, one := range lists {
		if v := reflect.ValueOf(one); v.Cap() > 0 {
			l = append(l, span{v.Pointer(), v.Pointer() + uintptr(v.Cap())*v.Type().Elem().Size()})
		}
	}
	slices.SortFunc(l, func(x, y span) int { return cmp.Compare(x.from, y.from) })
	for i := 1; i < len(l); i++ {
		if l[i].from < l[i-1].to {
			t.Fatalf("two lists share memory: %x and %x", l[i-1], l[i])
		}
	}
	runtime.KeepAlive(lists)
}

// P3: by that New was handed is not changed, nor its spare room, be a node made of it or not; nor is it kept: changed by the one who gave it, nothing is told otherwise. (Each node of these tests has it changed.)
func TestByIsNotKept(t *testing.T) {
	for _, by := range [][]string{nil, {"k"}, {"l", "k"}, {"k", "l"}, {"y", "l", "k"}, {"s", "k"}, {"l", "k", "l"}, {"z", "y", "k", "s", "a"}} {
		for kind := -1; kind <= 7; kind++ {
			given := roomy(by, "strange")
			n := group.New(kind, "s", "x", given)
			if !slices.Equal(given[:cap(given)], roomy(by, "strange")[:cap(given)]) {
				t.Fatalf("%q became %q", by, given[:cap(given)])
			}
			if n == nil {
				continue
			}
			other := group.New(kind, "s", "x", by)
			spoil(given, "x")
			m := newMaker(30)
			for range 40 {
				d := m.delta(nil)
				if got, want := n.Take(d), other.Take(d); !alikeDeltas(got, want) || !alikeRows(n.All(), other.All()) {
					t.Fatalf("got %s, want %s", brief(told(got)), brief(told(want)))
				}
			}
			if slices.ContainsFunc(given[:cap(given)], func(s string) bool { return s != "x" }) {
				t.Fatalf("what was given became %q", given)
			}
		}
	}
}

// P3: what Take was handed is not changed, nor its spare room, by any call; nor is it kept: changed by the one who gave it, nothing is told otherwise.
func TestGivenIsNotKept(t *testing.T) {
	m := newMaker(31)
	eachShape(t, func(b *both) {
		var given []api.Tuple
		for range 60 {
			d := m.delta(b.m.row.l)
			d.T = roomyTuple(d.T)
			was := ownTuple(wholeTuple(d.T))
			b.take(d)
			if !alike(wholeTuple(d.T), was) {
				t.Fatalf("%s became %s", brief(was), brief(wholeTuple(d.T)))
			}
			spoilTuple(d.T)
			b.check()
			given = append(given, d.T)
		}
		for _, one := range ownTuples(b.m.row.l) {
			b.take(drop(one))
		}
		if slices.ContainsFunc(given, func(one api.Tuple) bool { return !spoiled(one) }) {
			t.Fatal("what was given is changed")
		}
	})
}

// P3: one tuple's lists, changed between, may be handed in for each call.
func TestGivenOfOneList(t *testing.T) {
	b := node(t, "sum", "s", "x", "k")
	one := tuple("k=1 x=2 #1")
	for i := range 20 {
		one.Binds[0].V, one.Binds[1].V, one.Ids[0] = read([]string{"1", "2", "'a"}[i%3]), num([]string{"5", "1/2", "-1", "0"}[i%4]), i+1
		b.take(put(one))
	}
	b.tells(20, "k=1 s=17/2", "k=2 s=10", "k='a s=4")
	one.Binds[0].V, one.Binds[1].V, one.Ids[0] = num("1"), num("5"), 1
	b.do("-k=1 x=5 #1", "-k=1 s=17/2", "+k=1 s=7/2")
	b.call(drop(one))
}

// P3: deltas, and the lists of their tuples, are the asker's own: changed by who asked, nothing is told otherwise behind that.
func TestDeltasAreOwn(t *testing.T) {
	m := newMaker(32)
	eachShape(t, func(b *both) {
		for range 60 {
			spoilDeltas(m.step(b))
			b.check()
		}
		for _, one := range ownTuples(b.m.row.l) {
			spoilDeltas(b.take(drop(one)))
			b.check()
		}
	})
}

// P3: what All tells is the asker's own: changed by who asked, nothing is told otherwise behind that, and what was told ahead stays.
func TestRowsAreOwn(t *testing.T) {
	m := newMaker(33)
	eachShape(t, func(b *both) {
		for range 40 {
			m.step(b)
			first, other := b.n.All(), b.n.All()
			want := ownTuples(other)
			spoilTuples(first)
			if !alikeRows(other, want) {
				t.Fatalf("got %s, and then %s", brief(lines(want)), brief(lines(other)))
			}
			b.check()
			spoilTuples(other)
			b.check()
		}
	})
}

// P3: what was told stays as it was, whatever is told behind it, and whatever is done to that.
func TestToldStays(t *testing.T) {
	m := newMaker(34)
	eachShape(t, func(b *both) {
		var deltas, wantDeltas [][]api.Delta
		var rows, wantRows [][]api.Tuple
		for range 30 {
			got, row := m.step(b), b.n.All()
			deltas, wantDeltas = append(deltas, got), append(wantDeltas, own(got))
			rows, wantRows = append(rows, row), append(wantRows, ownTuples(row))
			spoilDeltas(m.step(b))
			spoilTuples(b.n.All())
		}
		for i := range rows {
			if !alikeDeltas(deltas[i], wantDeltas[i]) || !alikeRows(rows[i], wantRows[i]) {
				t.Fatalf("%d: got %s and %s, want %s and %s", i, brief(deltas[i]), brief(rows[i]), brief(wantDeltas[i]), brief(wantRows[i]))
			}
		}
	})
}

// P3: no list of an answer shares memory with an argument, with another answer, or with another list of the same answer.
func TestApart(t *testing.T) {
	m, many := newMaker(35), 0
	for i := 1; i <= 6; i++ {
		for _, s := range shapes() {
			by := roomy(s.by, "strange")
			n := group.New(i, s.name, s.arg, by)
			all := []any{by}
			for range 40 {
				d := m.delta(nil)
				d.T = roomyTuple(d.T)
				all = append(all, d.T.Binds, d.T.Ids)
				all = slices.Concat(all, ofDeltas(n.Take(d)), ofTuples(n.All()), ofTuples(n.All()))
				if m.Intn(3) == 0 {
					all = slices.Concat(all, ofDeltas(n.Take(drop(d.T))), ofTuples(n.All()))
				}
			}
			apart(t, all)
			many += len(all)
		}
	}
	if many < 30000 {
		t.Errorf("just %d", many)
	}
}

// P1, P18.1 to P18.4: any calls end, without a panic; of right tuples they are as another one tells them.
func FuzzCalls(f *testing.F) {
	f.Add(1, 3, "x", 1, "1", 1, []byte{0, 1, 2, 3, 4, 5, 6, 7, 8, 40, 41, 42, 43, 44, 45})
	f.Add(2, 4, "k", 2, "1 #1", 12, []byte{2, 10, 18, 3, 11, 19, 2, 3, 77, 200, 255})
	f.Add(5, 8, "", 9, "\xff", -1, []byte("one, and two, and three of them"))
	f.Add(6, 12, "x=", 6, "1, 2", 0, []byte{255, 254, 253, 252, 9, 8, 7, 6})
	f.Add(3, 0, "x", 1, "1x", 3, []byte("a row of calls, each by a byte"))
	f.Add(4, 13, "s", 0, "", 3, []byte("and another one, of the greatest"))
	f.Add(7, 1, "s", 0, "", 3, []byte{})
	f.Fuzz(func(t *testing.T, kind, which int, name string, sort int, s string, id int, steps []byte) {
		at := shapes()[int(uint(which)%uint(len(shapes())))]
		n := group.New(kind, at.name, at.arg, at.by)
		if n == nil || kind < 1 || kind > 6 {
			if n != nil || kind >= 1 && kind <= 6 {
				t.Fatalf("kind %d: nil %v", kind, n == nil)
			}
			return
		}
		group.New(kind, name, s, []string{s, name, at.name})
		m, b := newMaker(int64(len(steps))), node(t, names()[kind-1], at.name, at.arg, at.by...)
		strange := bound(name, value(sort, s), id)
		isRight := bind.Right(strange)
		for _, x := range steps[:min(len(steps), 100)] {
			one := strange
			if x&4 > 0 {
				one = m.tuple()
			} else if x&8 > 0 {
				one = also(bound("k", num("1"), int(x>>4)+1), "x", num(pick(m, "0", "1", "1/2")))
			}
			if x&16 > 0 {
				one.Ids = nil
			}
			d := api.Delta{Add: x&3 > 0, T: one}
			if isRight || x&12 > 0 {
				b.take(d)
			}
			n.Take(d)
			n.All()
		}
		if isRight && !alikeRows(n.All(), b.n.All()) {
			t.Fatalf("got %s, want %s", brief(lines(n.All())), brief(lines(b.n.All())))
		}
	})
}
