package facts_test

import (
	"slices"
	"testing"

	"tribunal/api"
	"tribunal/facts"
	"tribunal/schema"
)

// P3: what Assert was given may be changed behind it, and facts tell what they told.
func TestAssertedIsNotKept(t *testing.T) {
	b := newBoth(t)
	for _, tm := range templates() {
		for n := range 3 {
			l := fitting(tm.Name, n)
			b.assert(tm.Name, l...)
			for i := range l {
				l[i] = api.Value{Kind: 77, S: "changed"}
				b.check()
			}
		}
	}
}

// P3: what Modify was given may be changed behind it, and facts tell what they told.
func TestModifiedIsNotKept(t *testing.T) {
	b := newBoth(t)
	b.assert("order", fitting("order", 0)...)
	for n := range 4 {
		now := fitting("order", n+1)
		l := puts(put("note", now[3]), put("by", now[0]), put("total", now[1]))
		b.modify(n+1, l...)
		for i := range l {
			l[i] = put("by", sym("changed"))
			b.check()
		}
	}
}

// P3: what Assert and Modify are given stays as it is, and its spare room, with an error or without.
func TestGivenIsNotChanged(t *testing.T) {
	b := newBoth(t)
	for _, tm := range templates() {
		room := append(fitting(tm.Name, 1), stock()...)
		before := slices.Clone(room)
		for n := range len(tm.Slots) + 2 {
			b.assert(tm.Name, room[:n]...)
		}
		if !slices.Equal(room, before) {
			t.Fatalf("Assert of %s changed what it was given", tm.Name)
		}
	}
	spare := puts(put("total", num("7")), put("by", sym("q")), put("note", text("q")), put("total", num("7")), put("x", api.Value{}))
	before := slices.Clone(spare)
	for n := range spare {
		for _, id := range []int{1, 0, b.m.given} {
			b.modify(id, spare[:n]...)
			b.modify(b.m.given, spare[n:]...)
		}
	}
	if !slices.Equal(spare, before) {
		t.Fatalf("Modify changed what it was given to%s", toldPuts(spare))
	}
}

// spoil makes each of l another one, its values and all spare room too.
func spoil(l []api.Fact) {
	l = l[:cap(l)]
	for i := range l {
		spoilOne(l[i])
		l[i] = api.Fact{Id: -7, Tmpl: "changed"}
	}
}

func spoilOne(x api.Fact) {
	room := x.Vals[:cap(x.Vals)]
	for i := range room {
		room[i] = api.Value{Kind: 77, S: "changed"}
	}
}

// P3: what Get, All, Of and With told may be changed by who asked, and its spare room, and nothing is told otherwise behind that.
func TestToldIsOwn(t *testing.T) {
	b := newBoth(t)
	b.fill(40)
	b.modify(1, put("note", text("q")))
	asks := []func() []api.Fact{
		b.f.All,
		func() []api.Fact { return b.f.Of("order") },
		func() []api.Fact { return b.f.Of("flag") },
		func() []api.Fact { return b.f.With("order", "paid", boolean("true")) },
		func() []api.Fact { return b.f.With("wide", "a", num("1")) },
		func() []api.Fact { x, _ := b.f.Get(b.m.given); return []api.Fact{x} },
		func() []api.Fact { x, _ := b.f.Get(10); return []api.Fact{x} },
	}
	for i, ask := range asks {
		other := ask()
		want := deep(other)
		if len(want) == 0 {
			t.Fatalf("%d: nothing is told", i)
		}
		spoil(ask())
		b.check()
		if !alike(other, want) {
			t.Fatalf("%d: two answers share memory: %s", i, told(other))
		}
		spoil(other)
		b.check()
		b.retract(b.m.list[0].Id)
		b.modify(b.m.list[3].Id)
		b.check()
	}
}

// P3: no two lists of one answer share memory.
func TestListsAlone(t *testing.T) {
	b := newBoth(t)
	for range 20 {
		b.assert("pair", num("1"), num("1"))
	}
	for _, l := range [][]api.Fact{b.f.All(), b.f.Of("pair"), b.f.With("pair", "b", num("1"))} {
		if len(l) != 20 {
			t.Fatalf("got %s", told(l))
		}
		for i := range l {
			room := l[i].Vals[:cap(l[i].Vals)]
			for j := range room {
				room[j].S += "x"
			}
		}
		for _, x := range l {
			if !slices.Equal(x.Vals, vals(num("1x"), num("1x"))) {
				t.Fatalf("got %s", told([]api.Fact{x}))
			}
		}
	}
	b.check()
}

// P3: what was told stays as it was, whatever comes behind it.
func TestToldStays(t *testing.T) {
	b, r := newBoth(t), newMakes(60)
	b.fill(20)
	one, _ := b.f.Get(5)
	got := [][]api.Fact{b.f.All(), b.f.Of("pair"), b.f.With("bill", "total", num("1")), {one}}
	var want [][]api.Fact
	for _, l := range got {
		want = append(want, deep(l))
	}
	for range 300 {
		r.step(b)
	}
	for i := range got {
		if !alike(got[i], want[i]) {
			t.Errorf("%d: got %s, want %s", i, told(got[i]), told(want[i]))
		}
	}
}

// P3: two Facts of one schema know nothing of each other, and the schema stays as it is.
func TestFactsAlone(t *testing.T) {
	s, _, _ := schema.New(templates())
	a := &both{t, facts.New(s), &model{}}
	b := &both{t, facts.New(s), &model{}}
	r := newMakes(70)
	for range 20 {
		for range 30 {
			r.step(a)
			a.brief()
			b.brief()
		}
		for range 5 {
			r.step(b)
		}
		a.check()
		b.check()
	}
	c := &both{t, facts.New(s), &model{}}
	c.check()
	c.assert("flag")
	a.check()
	if l := s.List(); len(l) != len(templates()) || s.Fits("pair", vals(num("1"), num("1"))) != api.OK {
		t.Errorf("the schema has %d templates now", len(l))
	}
}

// P3: the same calls on other Facts tell the same.
func TestSameAgain(t *testing.T) {
	var want [][]api.Fact
	for i := range 5 {
		b, r := newBoth(t), newMakes(80)
		var got [][]api.Fact
		for range 300 {
			r.step(b)
			got = append(got, b.f.All(), b.f.Of("order"), b.f.With("order", "paid", boolean("true")))
		}
		if i == 0 {
			want = got
		}
		if !slices.EqualFunc(got, want, alike) {
			t.Fatalf("the %dth time another thing is told", i)
		}
	}
}

// P1, P2: any calls end, without a panic, and are as another one tells them.
func FuzzCalls(f *testing.F) {
	f.Add("order", "by", "total", 1, 2, "3/2", []byte{0, 1, 2, 3, 4, 5, 6, 7})
	f.Add("bill", "total", "by", 2, 1, "red", []byte{2, 9, 40, 77, 1, 200, 100, 3})
	f.Add("flag", "", "x", 0, -1, "true", []byte{255, 128, 0, 254, 127, 1, 1, 129})
	f.Add("pair", "a", "b", 1, 1, "7", []byte("one, and two, and three of them"))
	f.Add("", "\xff", "1a", -1, 5, "", []byte{})
	f.Fuzz(func(t *testing.T, tmpl, slot, other string, k, m int, v string, steps []byte) {
		b := newBoth(t)
		r := newMakes(int64(k))
		of := vals(api.Value{Kind: k, S: v}, api.Value{Kind: m, S: v}, num(v), text(v), sym(v), boolean(v))
		for i, x := range steps[:min(len(steps), 200)] {
			value := of[i%len(of)]
			switch x % 8 {
			case 0:
				b.assert(tmpl, of[:int(x/8)%len(of)]...)
			case 1:
				l := fitting(tmpl, i)
				if len(l) > 0 {
					l[int(x/8)%len(l)] = value
				}
				b.assert(tmpl, l...)
			case 2:
				b.modify(int(x/8), put(slot, value), put(other, of[int(x)%len(of)]))
			case 3:
				b.modify(int(x/8), put(other, value))
			case 4:
				b.retract(int(x / 8))
			case 5:
				b.retract(k)
				b.modify(m)
			default:
				r.step(b)
			}
			b.checkWith(tmpl, slot, value)
			b.checkWith(tmpl, other, value)
		}
		b.checkOf(tmpl)
		b.check()
	})
}
