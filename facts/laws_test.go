package facts_test

import (
	"runtime"
	"slices"
	"strconv"
	"testing"

	"tribunal/api"
)

// P8.1 (H1 to H3): any comings and goings, held against a second telling.
func TestComingsAndGoings(t *testing.T) {
	for seed := range int64(12) {
		b, r := newBoth(t), newMakes(seed)
		for i := range 400 {
			r.step(b)
			if i%40 == 39 {
				b.check()
			}
		}
	}
}

// P8.1 (H1 to H3): the same about 300 facts, where asserting is refused and modifying is not.
func TestAtTheEdge(t *testing.T) {
	b, r := newBoth(t), newMakes(20)
	b.fill(298)
	full := 0
	for range 400 {
		if b.f.Many() == 300 {
			full++
		}
		r.step(b)
		if b.f.Many() < 298 {
			b.fill(298)
		}
	}
	if full < 50 {
		t.Errorf("there were 300 facts only %d times", full)
	}
	b.check()
}

// P8.2 (never again): each number that is told is one more than the one ahead of it, whatever was refused between them, and whatever is gone.
func TestNeverAgain(t *testing.T) {
	f, r := made(t), newMakes(30)
	last, refused := 0, 0
	see := func(n int, err api.Errno) {
		t.Helper()
		if err != api.OK {
			refused++
			if n != 0 {
				t.Fatalf("a number %d beside error %d", n, err)
			}
			return
		}
		if n != last+1 || f.Next() != n+1 {
			t.Fatalf("behind %d: got %d, next %d", last, n, f.Next())
		}
		last = n
	}
	for range 6000 {
		all := f.All()
		switch k := r.Intn(5); {
		case k < 2 || len(all) == 0:
			tmpl := r.tmpl()
			see(f.Assert(tmpl, r.values(tmpl)))
		case k < 4:
			x := one(r, all)
			see(f.Modify(x.Id+r.Intn(2), r.puts(x.Tmpl)))
		default:
			f.Retract(one(r, all).Id)
		}
		if f.Next() != last+1 {
			t.Fatalf("next is %d, behind %d", f.Next(), last)
		}
	}
	if last < 2000 || refused < 500 {
		t.Errorf("only %d numbers given, %d refused", last, refused)
	}
}

// P8.2 (never again): with all facts gone numbers go on, and what is gone comes back by no call.
func TestGoneForEver(t *testing.T) {
	b := newBoth(t)
	for range 30 {
		b.fill(10)
		for _, x := range b.f.All() {
			b.retract(x.Id)
		}
		if b.f.Many() != 0 || b.f.Next() != b.m.given+1 {
			t.Fatalf("got many %d, next %d", b.f.Many(), b.f.Next())
		}
		for n := range b.m.given + 1 {
			b.checkGet(n)
			b.noRetract(n)
			b.noModify(api.ErrNone, n)
		}
	}
	b.check()
}

// P8.3 (the index): With tells just those of All that have the value, for each template, slot and value, those that are gone too.
func TestIndex(t *testing.T) {
	f, r := made(t), newMakes(40)
	for i := range 3000 {
		all := f.All()
		switch k := r.Intn(5); {
		case k < 2 || len(all) < 20:
			tmpl := r.tmpl()
			f.Assert(tmpl, r.values(tmpl))
		case k < 4:
			x := one(r, all)
			f.Modify(x.Id, r.puts(x.Tmpl))
		default:
			f.Retract(one(r, all).Id)
		}
		if i%50 > 0 {
			continue
		}
		all = f.All()
		for _, tm := range templates() {
			for j, slot := range tm.Slots {
				for _, v := range stock() {
					want := slices.DeleteFunc(slices.Clone(all), func(x api.Fact) bool { return x.Tmpl != tm.Name || x.Vals[j] != v })
					if got := f.With(tm.Name, slot.Name, v); !alike(got, want) {
						t.Fatalf("With %s %s%s: got %s, want %s", tm.Name, slot.Name, toldValues(vals(v)), told(got), told(want))
					}
				}
			}
		}
	}
}

// P8.3 (the index): each fact stands in each of its slots' answers, once, and in no other one.
func TestEachSlot(t *testing.T) {
	b := newBoth(t)
	b.fill(300)
	for _, tm := range templates() {
		for i, slot := range tm.Slots {
			seen := map[int]int{}
			for _, v := range ofKind(slot.Type) {
				for _, x := range b.f.With(tm.Name, slot.Name, v) {
					seen[x.Id]++
					if x.Tmpl != tm.Name || x.Vals[i] != v {
						t.Fatalf("With %s %s%s tells %s", tm.Name, slot.Name, toldValues(vals(v)), told([]api.Fact{x}))
					}
				}
			}
			for _, x := range b.f.Of(tm.Name) {
				if seen[x.Id] != 1 {
					t.Fatalf("%s stands %d times in what With tells of %s", told([]api.Fact{x}), seen[x.Id], slot.Name)
				}
			}
			if len(seen) != len(b.f.Of(tm.Name)) {
				t.Fatalf("With tells %d facts of %s in all", len(seen), tm.Name)
			}
		}
	}
}

// P8.1 (H3): All, Of and With tell the least number first, however often they are asked.
func TestOrder(t *testing.T) {
	b := newBoth(t)
	b.fill(300)
	for i := range 100 {
		b.retract(3*i + 1)
	}
	for i := range 90 {
		b.modify(3*i+2, put("total", num("1"))) // refused, if there is no such slot
	}
	rising := func(l []api.Fact) {
		t.Helper()
		for i, x := range l {
			if i > 0 && l[i-1].Id >= x.Id {
				t.Fatalf("%d stands behind %d", x.Id, l[i-1].Id)
			}
		}
	}
	for range 30 {
		rising(b.f.All())
		for _, tm := range templates() {
			rising(b.f.Of(tm.Name))
			for _, slot := range tm.Slots {
				for _, v := range ofKind(slot.Type) {
					rising(b.f.With(tm.Name, slot.Name, v))
				}
			}
		}
	}
}

// P8.1 (H3): All is what Of tells of each template, together, and what Get tells of each number.
func TestTogether(t *testing.T) {
	f, r := made(t), newMakes(50)
	for range 2000 {
		tmpl := r.tmpl()
		f.Assert(tmpl, r.values(tmpl))
		if r.Intn(3) == 0 {
			f.Retract(1 + r.Intn(f.Next()))
		}
	}
	var of, got []api.Fact
	for _, tm := range templates() {
		of = append(of, f.Of(tm.Name)...)
	}
	slices.SortFunc(of, func(x, y api.Fact) int { return x.Id - y.Id })
	for n := range f.Next() {
		if x, is := f.Get(n); is {
			got = append(got, x)
		}
	}
	if all := f.All(); !alike(of, all) || !alike(got, all) || len(all) != f.Many() || len(all) < 100 {
		t.Errorf("All: got %s, Of tells %s, Get %s, Many %d", told(all), told(of), told(got), f.Many())
	}
}

// P3 (and T5): with all facts gone nothing more is kept than at first, whatever values there were.
func TestNothingIsKept(t *testing.T) {
	f := made(t)
	before := heap()
	for i := range 40000 {
		note := text(times("x", 90) + strconv.Itoa(i))
		n, err := f.Assert("order", vals(sym("ann"), num(strconv.Itoa(i)), boolean("true"), note))
		if err != api.OK {
			t.Fatalf("the %dth one: got %d", i, err)
		}
		n, err = f.Modify(n, puts(put("total", num("-"+strconv.Itoa(i+1)))))
		if err != api.OK || f.Retract(n) != api.OK {
			t.Fatalf("the %dth one: got %d", i, err)
		}
	}
	if more := heap() - before; more > 1<<20 {
		t.Errorf("%d bytes more are kept, of no facts", more)
	}
	if f.Many() != 0 || f.Next() != 80001 {
		t.Errorf("got many %d, next %d", f.Many(), f.Next())
	}
}

// heap is how many bytes are in use.
func heap() int64 {
	runtime.GC()
	var m runtime.MemStats
	runtime.ReadMemStats(&m)
	return int64(m.HeapAlloc)
}
