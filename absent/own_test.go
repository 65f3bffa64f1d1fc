package absent_test

import (
	"cmp"
	"reflect"
	"runtime"
	"slices"
	"testing"

	"tribunal/absent"
	"tribunal/api"
	"tribunal/bind"
)

// What stands in spare room, and what is put in place of what was handed in, or told.
func strangeBind() api.Bind { return api.Bind{Name: "strange", V: value(77, "strange")} }

func strangeTuple() api.Tuple {
	return api.Tuple{Binds: []api.Bind{strangeBind()}, Ids: []int{-77}}
}

// roomy is l in memory of its own, with spare room, in which something stands.
func roomy[T any](l []T, strange T) []T {
	all := make([]T, len(l)+3)
	for i := range all {
		all[i] = strange
	}
	copy(all, l)
	return all[:len(l)]
}

func roomyTuple(t api.Tuple) api.Tuple {
	return api.Tuple{Binds: roomy(t.Binds, strangeBind()), Ids: roomy(t.Ids, -77)}
}

// wholeTuple is a tuple with its lists' spare room.
func wholeTuple(t api.Tuple) api.Tuple {
	return api.Tuple{Binds: t.Binds[:cap(t.Binds)], Ids: t.Ids[:cap(t.Ids)]}
}

// spoil puts something into all of a list, and into its spare room.
func spoil[T any](l []T, strange T) {
	l = l[:cap(l)]
	for i := range l {
		l[i] = strange
	}
}

func spoilTuple(t api.Tuple) {
	spoil(t.Binds, strangeBind())
	spoil(t.Ids, -77)
}

func spoilTuples(l []api.Tuple) {
	for _, t := range l {
		spoilTuple(t)
	}
	spoil(l, strangeTuple())
}

func spoilDeltas(l []api.Delta) {
	for _, d := range l {
		spoilTuple(d.T)
	}
	spoil(l, put(strangeTuple()))
}

// spoiled tells whether what was spoiled still stands as it was spoiled.
func spoiled(t api.Tuple) bool {
	w := wholeTuple(t)
	return !slices.ContainsFunc(w.Binds, func(b api.Bind) bool { return b != strangeBind() }) && !slices.ContainsFunc(w.Ids, func(id int) bool { return id != -77 })
}

// ownTuple is a tuple in memory of its own; own and ownTuples are deltas, and tuples, likewise.
func ownTuple(t api.Tuple) api.Tuple {
	return api.Tuple{Binds: slices.Clone(t.Binds), Ids: slices.Clone(t.Ids)}
}

func own(l []api.Delta) []api.Delta {
	l = slices.Clone(l)
	for i := range l {
		l[i].T = ownTuple(l[i].T)
	}
	return l
}

func ownTuples(l []api.Tuple) []api.Tuple {
	l = slices.Clone(l)
	for i := range l {
		l[i] = ownTuple(l[i])
	}
	return l
}

// ofTuples is all lists of an answer: the rows, and each tuple's Binds and Ids; ofDeltas likewise.
func ofTuples(l []api.Tuple) []any {
	all := []any{l}
	for _, t := range l {
		all = append(all, t.Binds, t.Ids)
	}
	return all
}

func ofDeltas(l []api.Delta) []any {
	all := []any{l}
	for _, d := range l {
		all = append(all, d.T.Binds, d.T.Ids)
	}
	return all
}

// span is where a list stands, with its spare room.
type span struct{ from, to uintptr }

// apart fails, if two of those lists share memory. It takes all of them at once, as memory that no one has any more may be had again.
func apart(t *testing.T, lists []any) {
	t.Helper()
	var l []span
	for _, one := range lists {
		if v := reflect.ValueOf(one); v.Cap() > 0 {
			l = append(l, span{v.Pointer(), v.Pointer() + uintptr(v.Cap())*v.Type().Elem().Size()})
		}
	}
	slices.SortFunc(l, func(x, y span) int { return cmp.Compare(x.from, y.from) })
	for i := 1; i < len(l); i++ {
		if l[i].from < l[i-1].to {
			t.Fatalf("two lists share memory: %x and %x", l[i-1], l[i])
		}
	}
	runtime.KeepAlive(lists)
}

// P3: what Left and Right were handed is not changed, nor its spare room, by any call; nor is it kept: changed by the one who gave it, nothing is told otherwise.
func TestGivenIsNotKept(t *testing.T) {
	m := newMaker(31)
	for range 80 {
		b := node(t)
		var given []api.Tuple
		for range 60 {
			x := m.turn(b)
			x.d.T = roomyTuple(x.d.T)
			was := ownTuple(wholeTuple(x.d.T))
			b.turn(x)
			if !alike(wholeTuple(x.d.T), was) {
				t.Fatalf("%s became %s", brief(was), brief(wholeTuple(x.d.T)))
			}
			spoilTuple(x.d.T)
			b.check()
			given = append(given, x.d.T)
		}
		for _, one := range slices.Clone(b.m.right.l) {
			b.right(drop(one))
		}
		if slices.ContainsFunc(given, func(one api.Tuple) bool { return !spoiled(one) }) {
			t.Fatal("what was given is changed")
		}
	}
}

// P3: one tuple's lists, changed between, may be handed in for each call, and for both sides.
func TestGivenOfOneList(t *testing.T) {
	b := node(t)
	one := tuple("x=1 y=2 #1 #2")
	for i := range 20 {
		one.Binds[0].V, one.Ids[0] = read([]string{"1", "2", "'a"}[i%3]), i%5+1
		b.left(put(one))
		b.right(put(api.Tuple{Binds: one.Binds[:1], Ids: one.Ids[1:]}))
		b.left(put(api.Tuple{Binds: one.Binds[1:], Ids: one.Ids[:1]}))
		if i%4 == 0 {
			b.right(drop(api.Tuple{Binds: one.Binds[:1], Ids: one.Ids[1:]}))
		}
	}
	if len(b.m.left.l) != 20 || len(b.last) != 0 {
		t.Fatalf("got %d, %d", len(b.m.left.l), len(b.last))
	}
	for _, x := range ownTuples(b.m.right.l) {
		b.right(drop(x))
	}
	b.tells(20, lines(b.m.left.l)...)
}

// P3: deltas, and the lists of their tuples, are the asker's own: changed by who asked, nothing is told otherwise behind that.
func TestDeltasAreOwn(t *testing.T) {
	m := newMaker(32)
	for range 80 {
		b := node(t)
		for range 60 {
			spoilDeltas(m.step(b))
			b.check()
		}
		for _, one := range ownTuples(b.m.right.l) {
			spoilDeltas(b.right(drop(one)))
			b.check()
		}
		spoilDeltas(b.right(put(api.Tuple{})))
		spoilDeltas(b.right(drop(api.Tuple{})))
		b.check()
		for _, one := range ownTuples(b.m.left.l) {
			spoilDeltas(b.left(drop(one)))
			b.check()
		}
		b.tells(0)
	}
}

// P3: what All tells is the asker's own: changed by who asked, nothing is told otherwise behind that, and what was told ahead stays.
func TestRowsAreOwn(t *testing.T) {
	m := newMaker(33)
	for range 80 {
		b := node(t)
		for range 40 {
			m.step(b)
			first, other := b.n.All(), b.n.All()
			want := ownTuples(other)
			spoilTuples(first)
			if !alikeRows(other, want) {
				t.Fatalf("got %s, and then %s", brief(lines(want)), brief(lines(other)))
			}
			b.check()
			spoilTuples(other)
			b.check()
		}
	}
}

// P3: what was told stays as it was, whatever is told behind it, and whatever is done to that.
func TestToldStays(t *testing.T) {
	m := newMaker(34)
	for range 30 {
		b := node(t)
		var deltas, wantDeltas [][]api.Delta
		var rows, wantRows [][]api.Tuple
		for range 40 {
			got, row := m.step(b), b.n.All()
			deltas, wantDeltas = append(deltas, got), append(wantDeltas, own(got))
			rows, wantRows = append(rows, row), append(wantRows, ownTuples(row))
			spoilDeltas(m.step(b))
			spoilTuples(b.n.All())
		}
		for i := range rows {
			if !alikeDeltas(deltas[i], wantDeltas[i]) || !alikeRows(rows[i], wantRows[i]) {
				t.Fatalf("%d: got %s and %s, want %s and %s", i, brief(deltas[i]), brief(rows[i]), brief(wantDeltas[i]), brief(wantRows[i]))
			}
		}
	}
}

// P3: no list of an answer shares memory with an argument, with another answer, or with another list of the same answer.
func TestApart(t *testing.T) {
	m, many := newMaker(35), 0
	for range 40 {
		n := absent.New()
		var all []any
		for i := range 40 {
			a, b := m.delta(nil), m.delta(nil)
			if i%8 == 0 {
				b.T.Binds = nil
			}
			a.T, b.T = roomyTuple(a.T), roomyTuple(b.T)
			all = append(all, a.T.Binds, a.T.Ids, b.T.Binds, b.T.Ids)
			all = slices.Concat(all, ofDeltas(n.Left(a)), ofDeltas(n.Right(b)), ofTuples(n.All()), ofDeltas(n.Right(drop(b.T))), ofTuples(n.All()))
		}
		apart(t, all)
		many += len(all)
	}
	if many < 30000 {
		t.Errorf("just %d", many)
	}
}

// P1, P17.1 to P17.3: any calls end, without a panic; of right tuples they are as another one tells them.
func FuzzCalls(f *testing.F) {
	f.Add("x", 1, "1", 1, []byte{0, 1, 2, 3, 4, 5, 6, 7, 8, 40, 41, 42, 43, 44, 45})
	f.Add("y", 2, "1 #1", 12, []byte{2, 10, 18, 3, 11, 19, 2, 3, 77, 200, 255})
	f.Add("", 9, "\xff", -1, []byte("one, and two, and three of them"))
	f.Add("x=", 6, "1, 2", 0, []byte{255, 254, 253, 252, 9, 8, 7, 6})
	f.Fuzz(func(t *testing.T, name string, kind int, s string, id int, steps []byte) {
		m, b, n := newMaker(int64(len(steps))), node(t), absent.New()
		strange := bound(name, value(kind, s), id)
		isRight := bind.Right(strange)
		for _, x := range steps[:min(len(steps), 100)] {
			one := strange
			if x&4 > 0 {
				one = m.tuple()
			} else if x&8 > 0 {
				one = bound("x", num("1"), int(x>>4)+1)
			}
			if x&16 > 0 {
				one.Ids = nil
			}
			next := turn{x&1 == 0, api.Delta{Add: x&2 == 0, T: one}}
			if isRight || x&12 > 0 {
				b.turn(next)
			}
			if next.left {
				n.Left(next.d)
			} else {
				n.Right(next.d)
			}
			n.All()
		}
		if isRight && !alikeRows(n.All(), b.n.All()) {
			t.Fatalf("got %s, want %s", brief(lines(n.All())), brief(lines(b.n.All())))
		}
	})
}
