package alpha_test

import (
	"cmp"
	"math"
	"reflect"
	"runtime"
	"slices"
	"testing"

	"tribunal/alpha"
	"tribunal/api"
)

// What stands in spare room, and what is put in place of what was handed in, or told.
func strangeSlot() api.Slot { return has("a", num("77")) }

func strangeValue() api.Value { return api.Value{Kind: 77, S: "strange"} }

func strangeBind() api.Bind { return api.Bind{Name: "strange", V: strangeValue()} }

// roomy is l in memory of its own, with spare room, in which something stands.
func roomy[T any](l []T, strange T) []T {
	all := make([]T, len(l)+3)
	for i := range all {
		all[i] = strange
	}
	copy(all, l)
	return all[:len(l)]
}

// spoil puts something into all of a list, and into its spare room.
func spoil[T any](l []T, strange T) {
	l = l[:cap(l)]
	for i := range l {
		l[i] = strange
	}
}

func spoilTuple(t api.Tuple) {
	spoil(t.Binds, strangeBind())
	spoil(t.Ids, -77)
}

func spoilTuples(l []api.Tuple) {
	for _, t := range l {
		spoilTuple(t)
	}
	spoil(l, api.Tuple{Binds: []api.Bind{strangeBind()}, Ids: []int{-77}})
}

func spoilDeltas(l []api.Delta) {
	for _, d := range l {
		spoilTuple(d.T)
	}
	spoil(l, api.Delta{Add: true, T: api.Tuple{Ids: []int{-77}}})
}

// own is deltas in memory of their own, ownTuples is tuples likewise.
func own(l []api.Delta) []api.Delta {
	l = slices.Clone(l)
	for i := range l {
		l[i].T = ownTuples([]api.Tuple{l[i].T})[0]
	}
	return l
}

func ownTuples(l []api.Tuple) []api.Tuple {
	l = slices.Clone(l)
	for i := range l {
		l[i] = api.Tuple{Binds: slices.Clone(l[i].Binds), Ids: slices.Clone(l[i].Ids)}
	}
	return l
}

// ofDeltas is all lists of an answer: the deltas, and each tuple's Binds and Ids; ofTuples is likewise those of tuples.
func ofDeltas(l []api.Delta) []any {
	all := []any{l}
	for _, d := range l {
		all = append(all, d.T.Binds, d.T.Ids)
	}
	return all
}

func ofTuples(l []api.Tuple) []any {
	all := []any{l}
	for _, t := range l {
		all = append(all, t.Binds, t.Ids)
	}
	return all
}

// span is where a list stands, with its spare room.
type span struct{ from, to uintptr }

// apart fails, if two of those lists share memory. It takes all of them at once, as memory that no one has any more may be had again.
func apart(t *testing.T, lists []any) {
	t.Helper()
	var l []span
	for _, one := range lists {
		if v := reflect.ValueOf(one); v.Cap() > 0 {
			l = append(l, span{v.Pointer(), v.Pointer() + uintptr(v.Cap())*v.Type().Elem().Size()})
		}
	}
	slices.SortFunc(l, func(x, y span) int { return cmp.Compare(x.from, y.from) })
	for i := 1; i < len(l); i++ {
		if l[i].from < l[i-1].to {
			t.Fatalf("two lists share memory: %x and %x", l[i-1], l[i])
		}
	}
	runtime.KeepAlive(lists)
}

// P3: what New was handed is not changed, nor its spare room, by any call; nor is it kept: changed by the one who gave it, nothing is told otherwise.
func TestPatternIsNotKept(t *testing.T) {
	m := newMaker(30)
	for range 300 {
		p, as := m.pat(), m.as()
		room := roomy(p.Slots, strangeSlot())
		was := slices.Clone(room[:cap(room)])
		b := of(t, api.Pat{Tmpl: p.Tmpl, Slots: room}, as)
		for range 30 {
			m.step(b)
		}
		if !slices.Equal(room[:cap(room)], was) {
			t.Fatalf("%s became %s", brief(was), brief(room[:cap(room)]))
		}
		spoil(room, strangeSlot())
		b.check()
		for range 30 {
			m.step(b)
		}
		if got := room[:cap(room)]; slices.ContainsFunc(got, func(s api.Slot) bool { return s != strangeSlot() }) {
			t.Fatalf("changed to %s", brief(got))
		}
	}
}

// P3: one list of slots may be handed to two nodes, and pieces of it; each has its own.
func TestPatternsOfOneList(t *testing.T) {
	l := []api.Slot{asks("a", "x"), asks("b", "y"), has("a", num("1"))}
	was := slices.Clone(l)
	var nodes []*both
	for i := range l {
		nodes = append(nodes, of(t, pat("pair", l[:i]...), ""), of(t, pat("pair", l[i:]...), "f"))
	}
	for _, b := range nodes {
		b.add(pair(1, "1", "2"))
		b.add(pair(2, "2", "2"))
	}
	if !slices.Equal(l, was) {
		t.Fatalf("%s became %s", brief(was), brief(l))
	}
	spoil(l, strangeSlot())
	for _, b := range nodes {
		b.add(pair(3, "1", "1"))
		b.del(1)
		b.del(2)
		b.del(3)
	}
}

// P3: what Add was handed is not changed, nor its spare room, by any call; nor is it kept: changed by the one who gave it, nothing is told otherwise.
func TestFactsAreNotKept(t *testing.T) {
	m := newMaker(31)
	for range 300 {
		b := of(t, m.pat(), m.as())
		for range 40 {
			f := m.fact()
			f.Vals = roomy(f.Vals, strangeValue())
			was := slices.Clone(f.Vals[:cap(f.Vals)])
			b.add(f)
			if !slices.Equal(f.Vals[:cap(f.Vals)], was) {
				t.Fatalf("%s became %s", brief(was), brief(f.Vals[:cap(f.Vals)]))
			}
			spoil(f.Vals, strangeValue())
			b.check()
			if m.Intn(3) == 0 {
				b.del(m.number())
			}
			if got := f.Vals[:cap(f.Vals)]; slices.ContainsFunc(got, func(v api.Value) bool { return v != strangeValue() }) {
				t.Fatalf("changed to %s", brief(got))
			}
		}
	}
}

// P3: one list of values, changed between, may be handed in for each fact.
func TestFactsOfOneList(t *testing.T) {
	b := of(t, pat("pair", asks("a", "x"), asks("b", "y")), "f")
	l := []api.Value{num("1"), num("2")}
	for n := 1; n < 20; n++ {
		l[0], l[1] = l[1], num([]string{"3", "4", "5"}[n%3])
		b.add(fact(n, "pair", l...))
	}
	for n := range 20 {
		b.del(n)
	}
	b.all()
}

// P3: deltas, and the lists of their tuples, are the asker's own: changed by who asked, nothing is told otherwise behind that.
func TestDeltasAreOwn(t *testing.T) {
	m := newMaker(32)
	for range 300 {
		b := of(t, m.pat(), m.as())
		for range 60 {
			spoilDeltas(m.step(b))
			b.check()
		}
		for _, f := range slices.Clone(b.m.facts) {
			spoilDeltas(b.del(f.Id))
			b.check()
		}
		b.all()
	}
}

// P3: what All tells is the asker's own: changed by who asked, nothing is told otherwise behind that, and what was told ahead stays.
func TestRowsAreOwn(t *testing.T) {
	m := newMaker(33)
	for range 300 {
		b := of(t, m.pat(), m.as())
		for range 40 {
			m.step(b)
			first, other := b.n.All(), b.n.All()
			want := ownTuples(other)
			spoilTuples(first)
			if !slices.EqualFunc(other, want, alike) {
				t.Fatalf("got %s, and then %s", brief(lines(want)), brief(lines(other)))
			}
			b.check()
			spoilTuples(other)
			b.check()
		}
		for _, f := range slices.Clone(b.m.facts) {
			spoilTuples(b.n.All())
			b.del(f.Id)
		}
		b.all()
	}
}

// P3: what was told stays as it was, whatever is told behind it, and whatever is done to that.
func TestToldStays(t *testing.T) {
	m := newMaker(34)
	for range 60 {
		b := of(t, m.pat(), m.as())
		var deltas, wantDeltas [][]api.Delta
		var rows, wantRows [][]api.Tuple
		for range 60 {
			got, row := m.step(b), b.n.All()
			deltas, wantDeltas = append(deltas, got), append(wantDeltas, own(got))
			rows, wantRows = append(rows, row), append(wantRows, ownTuples(row))
			spoilDeltas(m.step(b))
			spoilTuples(b.n.All())
		}
		for i := range rows {
			if !alikeDeltas(deltas[i], wantDeltas[i]) || !slices.EqualFunc(rows[i], wantRows[i], alike) {
				t.Fatalf("%d: got %s and %s, want %s and %s", i, brief(deltas[i]), brief(rows[i]), brief(wantDeltas[i]), brief(wantRows[i]))
			}
		}
	}
}

// P3: no list of an answer shares memory with an argument, with another answer, or with another list of the same answer.
func TestApart(t *testing.T) {
	m, many := newMaker(35), 0
	for range 100 {
		p, as := m.pat(), m.as()
		p.Slots = roomy(p.Slots, strangeSlot())
		n := alpha.New(made(t), p, as)
		all := []any{p.Slots}
		for range 60 {
			f := m.fact()
			f.Vals = roomy(f.Vals, strangeValue())
			all = slices.Concat(all, []any{f.Vals}, ofDeltas(n.Add(f)), ofTuples(n.All()), ofTuples(n.All()))
			if m.Intn(2) == 0 {
				all = append(all, ofDeltas(n.Del(m.number()))...)
			}
		}
		apart(t, all)
		many += len(all)
	}
	if many < 40000 {
		t.Errorf("just %d", many)
	}
}

// P2: where nothing is told, the list is empty; each delta's tuple is whole.
func TestNothingTold(t *testing.T) {
	m := newMaker(36)
	for range 200 {
		b := of(t, m.pat(), m.as())
		for range 60 {
			got := m.step(b)
			if len(got) > 1 || len(got) == 1 && len(got[0].T.Ids) != 1 {
				t.Fatalf("got %s", brief(got))
			}
		}
	}
}

// P1, P15.1, P15.2: any calls end, without a panic, and are as another one tells them.
func FuzzCalls(f *testing.F) {
	f.Add("pair", "a", "x", "f", 1, "1", math.MaxInt, []byte{0, 1, 2, 3, 4, 5, 6, 7, 8, 40, 41, 42, 43, 44, 45})
	f.Add("order", "by", "who", "", 3, "ann", -1, []byte{2, 10, 18, 3, 11, 19, 2, 3, 77, 200, 255})
	f.Add("flag", "", "", "\xff", 0, "", 0, []byte("one, and two, and three of them"))
	f.Add("nothere", "\x00", "x", "x", 9, "true", math.MinInt, []byte{255, 254, 253, 252, 9, 8, 7, 6})
	f.Add("wide", "c", "X", "X", 2, "a", 1<<32+1, []byte{})
	f.Fuzz(func(t *testing.T, tmpl, slot, name, as string, kind int, s string, number int, steps []byte) {
		m, v := newMaker(int64(len(steps))), api.Value{Kind: kind, S: s}
		p := pat(tmpl, asks(slot, name), has(slot, v), asks("a", name), has("b", v))
		if len(steps) > 0 {
			p.Slots = p.Slots[:steps[0]%5]
		}
		b := of(t, p, as)
		for i, x := range steps[:min(len(steps), 200)] {
			id := int(x/8) - 3
			if i%5 == 0 {
				id = number
			}
			switch x % 8 {
			case 0:
				b.add(fact(id, tmpl, v, v))
			case 1:
				b.add(fact(id, "pair", num("1"), v))
			case 2:
				b.add(fact(id, "order", v, num(s), boolean("true"), text(s)))
			case 3, 4:
				b.del(id)
			case 5:
				b.add(fact(id, tmpl))
			default:
				m.step(b)
			}
		}
		b.del(number)
		b.add(fact(number, "pair", v, v))
	})
}
