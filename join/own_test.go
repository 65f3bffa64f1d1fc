package join_test

import (
	"cmp"
	"reflect"
	"runtime"
	"slices"
	"testing"

	"tribunal/api"
	"tribunal/bind"
	"tribunal/join"
)

// What stands in spare room, and what is put in place of what was handed in, or told.
func strangeBind() api.Bind { return api.Bind{Name: "strange", V: value(77, "strange")} }

func strangeTuple() api.Tuple {
	return api.Tuple{Binds: []api.Bind{strangeBind()}, Ids: []int{-77}}
}

// roomy is l in memory of its own, with spare room, in which something stands.
func roomy[T any](l []T, strange T) []T {
	all := make([]T, len(l)+3)
	for i := range all {
		all[i] = strange
	}
	copy(all, l)
	return all[:len(l)]
}

func roomyTuple(t api.Tuple) api.Tuple {
	return api.Tuple{Binds: roomy(t.Binds, strangeBind()), Ids: roomy(t.Ids, -77)}
}

// wholeTuple is a tuple with its lists' spare room.
func wholeTuple(t api.Tuple) api.Tuple {
	return api.Tuple{Binds: t.Binds[:cap(t.Binds)], Ids: t.Ids[:cap(t.Ids)]}
}

// spoil puts something into all of a list, and into its spare room.
func spoil[T any](l []T, strange T) {
	l = l[:cap(l)]
	for i := range l {
		l[i] = strange
	}
}

func spoilTuple(t api.Tuple) {
	spoil(t.Binds, strangeBind())
	spoil(t.Ids, -77)
}

func spoilTuples(l []api.Tuple) {
	for _, t := range l {
		spoilTuple(t)
	}
	spoil(l, strangeTuple())
}

func spoilDeltas(l []api.Delta) {
	for _, d := range l {
		spoilTuple(d.T)
	}
	spoil(l, put(strangeTuple()))
}

// ownTuple is a tuple in memory of its own; own and ownTuples are deltas, and tuples, likewise.
func ownTuple(t api.Tuple) api.Tuple {
	return api.Tuple{Binds: slices.Clone(t.Binds), Ids: slices.Clone(t.Ids)}
}

func own(l []api.Delta) []api.Delta {
	l = slices.Clone(l)
	for i := range l {
		l[i].T = ownTuple(l[i].T)
	}
	return l
}

func ownTuples(l []api.Tuple) []api.Tuple {
	l = slices.Clone(l)
	for i := range l {
		l[i] = ownTuple(l[i])
	}
	return l
}

// ofTuples is all lists of an answer: the rows, and each tuple's Binds and Ids; ofDeltas likewise.
func ofTuples(l []api.Tuple) []any {
	all := []any{l}
	for _, t := range l {
		all = append(all, t.Binds, t.Ids)
	}
	return all
}

func ofDeltas(l []api.Delta) []any {
	all := []any{l}
	for _, d := range l {
		all = append(all, d.T.Binds, d.T.Ids)
	}
	return all
}

// span is where a list stands, with its spare room.
type span struct{ from, to uintptr }

// apart fails, if two of those lists share memory. It takes all of them at once, as memory that no one has any more may be had again.
func apart(t *testing.T, lists []any) {
	t.Helper()
	var l []span
	for _, one := range lists {
		if v := reflect.ValueOf(one); v.Cap() > 0 {
			l = append(l, span{v.Pointer(), v.Pointer() + uintptr(v.Cap())*v.Type().Elem().Size()})
		}
	}
	slices.SortFunc(l, func(x, y span) int { return cmp.Compare(x.from, y.from) })
	for i := 1; i < len(l); i++ {
		if l[i].from < l[i-1].to {
			t.Fatalf("two lists share memory: %x and %x", l[i-1], l[i])
		}
	}
	runtime.KeepAlive(lists)
}

// spoiled tells whether what was spoiled still stands as it was spoiled.
func spoiled(t api.Tuple) bool {
	w := wholeTuple(t)
	return !slices.ContainsFunc(w.Binds, func(b api.Bind) bool { return b != strangeBind() }) && !slices.ContainsFunc(w.Ids, func(id int) bool { return id != -77 })
}

// P3: what Take was handed is not changed, nor its spare room, by any call; nor is it kept: changed by the one who gave it, nothing is told otherwise.
func TestTakenIsNotKept(t *testing.T) {
	m := newMaker(30)
	for range 60 {
		o := memory(t)
		for range 60 {
			d := m.delta(o.w.l)
			d.T = roomyTuple(d.T)
			was := ownTuple(wholeTuple(d.T))
			o.take(d)
			if !alike(wholeTuple(d.T), was) {
				t.Fatalf("%s became %s", brief(was), brief(wholeTuple(d.T)))
			}
			spoilTuple(d.T)
			o.check()
			o.take(m.delta(o.w.l))
			if !spoiled(d.T) {
				t.Fatalf("changed to %s", brief(d.T))
			}
		}
	}
}

// P3: the same of what Left and Right were handed.
func TestGivenIsNotKept(t *testing.T) {
	m := newMaker(31)
	for range 60 {
		b := node(t)
		var given []api.Tuple
		for range 60 {
			x := turn{left: m.Intn(2) == 0}
			if x.left {
				x.d = m.delta(b.m.left.l)
			} else {
				x.d = m.delta(b.m.right.l)
			}
			x.d.T = roomyTuple(x.d.T)
			was := ownTuple(wholeTuple(x.d.T))
			b.turn(x)
			if !alike(wholeTuple(x.d.T), was) {
				t.Fatalf("%s became %s", brief(was), brief(wholeTuple(x.d.T)))
			}
			spoilTuple(x.d.T)
			b.check()
			given = append(given, x.d.T)
		}
		if slices.ContainsFunc(given, func(one api.Tuple) bool { return !spoiled(one) }) {
			t.Fatal("what was given is changed")
		}
	}
}

// P3: one tuple's lists, changed between, may be handed in for each call, and for both sides.
func TestGivenOfOneList(t *testing.T) {
	b, o := node(t), memory(t)
	one := tuple("x=1 y=2 #1 #2")
	for i := range 20 {
		one.Binds[0].V, one.Ids[0] = read([]string{"1", "2", "'a"}[i%3]), i%5+1
		b.left(put(one))
		b.right(put(one))
		o.take(put(one))
		b.right(put(api.Tuple{Binds: one.Binds[:1], Ids: one.Ids[1:]}))
		o.take(put(api.Tuple{Binds: one.Binds[1:], Ids: one.Ids[:1]}))
	}
	if len(b.m.left.l) != 15 || len(o.w.l) != 20 {
		t.Fatalf("got %d, %d", len(b.m.left.l), len(o.w.l))
	}
	for _, x := range ownTuples(b.m.left.l) {
		b.left(drop(x))
		b.right(drop(x))
		o.take(drop(x))
	}
}

// P3: deltas, and the lists of their tuples, are the asker's own: changed by who asked, nothing is told otherwise behind that.
func TestDeltasAreOwn(t *testing.T) {
	m := newMaker(32)
	for range 60 {
		b := node(t)
		for range 60 {
			spoilDeltas(m.step(b))
			b.check()
		}
		for _, one := range ownTuples(b.m.left.l) {
			spoilDeltas(b.left(drop(one)))
			b.check()
		}
		for _, one := range ownTuples(b.m.right.l) {
			spoilDeltas(b.right(drop(one)))
			b.check()
		}
		b.makes(0)
	}
}

// P3: what All of a memory and of a node tells is the asker's own: changed by who asked, nothing is told otherwise behind that, and what was told ahead stays.
func TestRowsAreOwn(t *testing.T) {
	m := newMaker(33)
	for range 60 {
		b, o := node(t), memory(t)
		for range 40 {
			m.step(b)
			o.take(m.delta(o.w.l))
			for _, all := range []func() []api.Tuple{b.n.All, o.m.All} {
				first, other := all(), all()
				want := ownTuples(other)
				spoilTuples(first)
				if !alikeRows(other, want) {
					t.Fatalf("got %s, and then %s", brief(lines(want)), brief(lines(other)))
				}
				b.check()
				o.check()
				spoilTuples(other)
				b.check()
				o.check()
			}
		}
	}
}

// P3: what was told stays as it was, whatever is told behind it, and whatever is done to that.
func TestToldStays(t *testing.T) {
	m := newMaker(34)
	for range 20 {
		b := node(t)
		var deltas, wantDeltas [][]api.Delta
		var rows, wantRows [][]api.Tuple
		for range 40 {
			got, row := m.step(b), b.n.All()
			deltas, wantDeltas = append(deltas, got), append(wantDeltas, own(got))
			rows, wantRows = append(rows, row), append(wantRows, ownTuples(row))
			spoilDeltas(m.step(b))
			spoilTuples(b.n.All())
		}
		for i := range rows {
			if !alikeDeltas(deltas[i], wantDeltas[i]) || !alikeRows(rows[i], wantRows[i]) {
				t.Fatalf("%d: got %s and %s, want %s and %s", i, brief(deltas[i]), brief(rows[i]), brief(wantDeltas[i]), brief(wantRows[i]))
			}
		}
	}
}

// P3: no list of an answer shares memory with an argument, with another answer, or with another list of the same answer.
func TestApart(t *testing.T) {
	m, many := newMaker(35), 0
	for range 30 {
		n, o := join.New(), join.NewMemory()
		var all []any
		for range 40 {
			a, b := m.delta(nil), m.delta(nil)
			a.T, b.T = roomyTuple(a.T), roomyTuple(b.T)
			all = append(all, a.T.Binds, a.T.Ids, b.T.Binds, b.T.Ids)
			o.Take(a)
			all = slices.Concat(all, ofDeltas(n.Left(a)), ofDeltas(n.Right(b)), ofTuples(n.All()), ofTuples(n.All()), ofTuples(o.All()), ofTuples(o.All()))
		}
		apart(t, all)
		many += len(all)
	}
	if many < 40000 {
		t.Errorf("just %d", many)
	}
}

// P3: one that merges with a tuple without anything shares no memory with what it is made of.
func TestApartOfOne(t *testing.T) {
	for _, first := range []api.Tuple{{}, tuple("x=1"), tuple("#1"), tuple("x=1 #1")} {
		n := join.New()
		l, r := roomyTuple(first), roomyTuple(tuple("x=1 y=2 #3"))
		all := []any{l.Binds, l.Ids, r.Binds, r.Ids}
		all = slices.Concat(all, ofDeltas(n.Left(put(l))), ofDeltas(n.Right(put(r))), ofTuples(n.All()))
		all = slices.Concat(all, ofDeltas(n.Left(drop(l))), ofDeltas(n.Left(put(l))), ofTuples(n.All()), ofDeltas(n.Right(drop(r))))
		apart(t, all)
	}
}

// P1, P16.1 to P16.3: any calls end, without a panic; of right tuples they are as another one tells them.
func FuzzCalls(f *testing.F) {
	f.Add("x", 1, "1", 1, []byte{0, 1, 2, 3, 4, 5, 6, 7, 8, 40, 41, 42, 43, 44, 45})
	f.Add("y", 2, "1 #1", 12, []byte{2, 10, 18, 3, 11, 19, 2, 3, 77, 200, 255})
	f.Add("", 9, "\xff", -1, []byte("one, and two, and three of them"))
	f.Add("x=", 6, "1, 2", 0, []byte{255, 254, 253, 252, 9, 8, 7, 6})
	f.Fuzz(func(t *testing.T, name string, kind int, s string, id int, steps []byte) {
		m, b, n := newMaker(int64(len(steps))), node(t), join.New()
		strange := bound(name, value(kind, s), id)
		isRight := bind.Right(strange)
		for _, x := range steps[:min(len(steps), 100)] {
			one := strange
			if x&4 > 0 {
				one = m.tuple()
			} else if x&8 > 0 {
				one = bound("x", num("1"), int(x>>4)+1)
			}
			if x&16 > 0 {
				one.Ids = nil
			}
			next := turn{x&1 == 0, api.Delta{Add: x&2 == 0, T: one}}
			if isRight || x&12 > 0 {
				b.turn(next)
			}
			if next.left {
				n.Left(next.d)
			} else {
				n.Right(next.d)
			}
			n.All()
		}
		if isRight && !alikeRows(n.All(), b.n.All()) {
			t.Fatalf("got %s, want %s", brief(lines(n.All())), brief(lines(b.n.All())))
		}
	})
}
