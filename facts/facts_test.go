package facts_test

import (
	"math"
	"slices"
	"testing"

	"tribunal/api"
)

// P8.1 (H1): New is one of no facts, and the next number is 1.
func TestNew(t *testing.T) {
	b := newBoth(t)
	b.check()
	if x, is := b.f.Get(1); is || !alikeOne(x, api.Fact{}) {
		t.Errorf("Get of nothing: got %s, %v", told([]api.Fact{x}), is)
	}
	if b.f.Next() != 1 || b.f.Many() != 0 || len(b.f.All()) != 0 {
		t.Errorf("got next %d, many %d, all %d", b.f.Next(), b.f.Many(), len(b.f.All()))
	}
}

// P8.1 (H1, H3): what fits is known, with the number that was next, and is told by all calls.
func TestAssert(t *testing.T) {
	f := made(t)
	order := vals(sym("ann"), num("3/2"), boolean("true"), text("a, b"))
	if n, err := f.Assert("order", order); n != 1 || err != api.OK {
		t.Fatalf("the first one: got %d, %d", n, err)
	}
	if n, err := f.Assert("flag", nil); n != 2 || err != api.OK {
		t.Fatalf("the second one: got %d, %d", n, err)
	}
	first, second := api.Fact{Id: 1, Tmpl: "order", Vals: order}, api.Fact{Id: 2, Tmpl: "flag"}
	if x, is := f.Get(1); !is || !alikeOne(x, first) {
		t.Errorf("Get of 1: got %s, %v", told([]api.Fact{x}), is)
	}
	if x, is := f.Get(2); !is || !alikeOne(x, second) {
		t.Errorf("Get of 2: got %s, %v", told([]api.Fact{x}), is)
	}
	for i, c := range []struct{ got, want []api.Fact }{
		{f.All(), []api.Fact{first, second}},
		{f.Of("order"), []api.Fact{first}},
		{f.Of("flag"), []api.Fact{second}},
		{f.Of("bill"), nil},
		{f.With("order", "by", sym("ann")), []api.Fact{first}},
		{f.With("order", "total", num("3/2")), []api.Fact{first}},
		{f.With("order", "paid", boolean("true")), []api.Fact{first}},
		{f.With("order", "note", text("a, b")), []api.Fact{first}},
		{f.With("order", "by", sym("bob")), nil},
		{f.With("order", "by", text("ann")), nil},
		{f.With("flag", "by", sym("ann")), nil},
	} {
		if !alike(c.got, c.want) {
			t.Errorf("%d: got %s, want %s", i, told(c.got), told(c.want))
		}
	}
	if f.Many() != 2 || f.Next() != 3 {
		t.Errorf("got many %d, next %d", f.Many(), f.Next())
	}
}

// P8.1 (H1): each value of each type may be had by each slot of it, and a fact may be known twice, by two numbers.
func TestAssertAll(t *testing.T) {
	b := newBoth(t)
	for _, tm := range templates() {
		for n := range 12 {
			if got := b.assert(tm.Name, fitting(tm.Name, n)...); got != b.m.given || got == 0 {
				t.Fatalf("%s: got %d", tm.Name, got)
			}
		}
	}
	b.check()
}

// P8.1 (H1): Assert of what does not fit tells what schema.Fits does, and changes nothing.
func TestAssertRefused(t *testing.T) {
	b := newBoth(t)
	for range 2 {
		for _, name := range noTemplates() {
			b.noAssert(api.ErrNone, name)
			b.noAssert(api.ErrNone, name, fitting("order", 0)...)
			b.noAssert(api.ErrNone, name, strange()...)
		}
		for _, tm := range templates() {
			b.refuseFits(tm)
		}
		b.check()
		b.assert("order", fitting("order", 1)...)
	}
}

// refuseFits fails, unless values that do not fit a template are refused, for each reason.
func (b *both) refuseFits(tm api.Template) {
	b.t.Helper()
	right := fitting(tm.Name, 0)
	for n := range len(right) {
		b.noAssert(api.ErrArg, tm.Name, right[:n]...)
		b.noAssert(api.ErrArg, tm.Name, strange()[:n]...)
	}
	b.noAssert(api.ErrArg, tm.Name, append(slices.Clone(right), num("1"))...)
	b.noAssert(api.ErrArg, tm.Name, slices.Concat(right, stock())...)
	b.noAssert(api.ErrArg, tm.Name, strange()[:len(right)+1]...)
	for i, f := range tm.Slots {
		for _, v := range stock() {
			if v.Kind == f.Type && slices.Contains(ofKind(f.Type), v) {
				continue
			}
			wrong := slices.Clone(right)
			wrong[i] = v
			b.noAssert(api.ErrType, tm.Name, wrong...)
		}
	}
}

// P8.1 (H1): there may be 300 facts, and no more; behind a Retract there is room for one again.
func TestFull(t *testing.T) {
	b := newBoth(t)
	b.fill(299)
	if n := b.assert("flag"); n != 300 {
		t.Fatalf("the 300th one: got %d", n)
	}
	for range 3 {
		b.noAssert(api.ErrTooMany, "flag")
		b.noAssert(api.ErrTooMany, "order", fitting("order", 3)...)
	}
	b.check()
	b.retract(17)
	if n := b.assert("order", fitting("order", 3)...); n != 301 || b.f.Many() != 300 {
		t.Fatalf("the 301st one, of 299: got %d, many %d", n, b.f.Many())
	}
	b.noAssert(api.ErrTooMany, "bill", fitting("bill", 0)...)
	for _, n := range []int{301, 1, 300} {
		b.retract(n)
	}
	for range 3 {
		b.assert("pair", fitting("pair", 1)...)
	}
	b.noAssert(api.ErrTooMany, "pair", fitting("pair", 1)...)
	b.check()
}

// P8.1 (H1), P2: with 300 facts, of what does not fit schema.Fits' error is told, as it is named first.
func TestFullRefused(t *testing.T) {
	b := newBoth(t)
	b.fill(300)
	for _, name := range noTemplates() {
		b.noAssert(api.ErrNone, name)
	}
	b.noAssert(api.ErrArg, "order")
	b.noAssert(api.ErrArg, "order", fitting("order", 0)[:3]...)
	b.noAssert(api.ErrArg, "flag", num("1"))
	b.noAssert(api.ErrType, "pair", num("1"), sym("a"))
	b.noAssert(api.ErrType, "pair", num("01"), num("1"))
	b.noAssert(api.ErrTooMany, "pair", num("1"), num("1"))
	b.check()
}

// P8.1 (H1): Retract of a fact that is there, of one that was, of one that never was, of 0 and of numbers below it.
func TestRetract(t *testing.T) {
	b := newBoth(t)
	never := []int{0, -1, -2, 8, 9, 300, math.MaxInt, math.MinInt, math.MaxInt32, 1 << 32, 1<<32 + 1}
	for _, n := range append(never, 1) {
		b.noRetract(n)
	}
	b.fill(7)
	for _, n := range []int{4, 1, 7, 2} {
		if err := b.f.Retract(n); err != api.OK {
			t.Fatalf("Retract of %d: got %d", n, err)
		}
		b.m.retract(n)
		b.check()
		b.noRetract(n)
		for _, n := range never {
			b.noRetract(n)
		}
	}
	if n := b.assert("flag"); n != 8 {
		t.Fatalf("the next one: got %d", n)
	}
	b.noRetract(4)
	for _, n := range []int{8, 3, 6, 5} {
		b.retract(n)
		b.noRetract(n)
	}
	if b.f.Many() != 0 || b.f.Next() != 9 {
		t.Fatalf("got many %d, next %d", b.f.Many(), b.f.Next())
	}
	b.check()
}

// P8.1 (H2): a Modify of some slots has another fact be known, of the next number, with those values, and the others as they were.
func TestModify(t *testing.T) {
	f := made(t)
	was := vals(sym("ann"), num("3/2"), boolean("true"), text("a, b"))
	f.Assert("order", was)
	n, err := f.Modify(1, puts(put("total", num("2"))))
	if n != 2 || err != api.OK {
		t.Fatalf("got %d, %d", n, err)
	}
	want := []api.Fact{{Id: 2, Tmpl: "order", Vals: vals(sym("ann"), num("2"), boolean("true"), text("a, b"))}}
	if got := f.All(); !alike(got, want) || f.Many() != 1 || f.Next() != 3 {
		t.Errorf("All: got %s, many %d, next %d", told(got), f.Many(), f.Next())
	}
	if x, is := f.Get(1); is || !alikeOne(x, api.Fact{}) {
		t.Errorf("Get of 1: got %s, %v", told([]api.Fact{x}), is)
	}
	if x, is := f.Get(2); !is || !alikeOne(x, want[0]) {
		t.Errorf("Get of 2: got %s, %v", told([]api.Fact{x}), is)
	}
	for i, c := range []struct{ got, want []api.Fact }{
		{f.With("order", "total", num("3/2")), nil},
		{f.With("order", "total", num("2")), want},
		{f.With("order", "by", sym("ann")), want},
		{f.With("order", "note", text("a, b")), want},
	} {
		if !alike(c.got, c.want) {
			t.Errorf("%d: got %s, want %s", i, told(c.got), told(c.want))
		}
	}
}

// P8.1 (H2): Modify of no slots, of each one, of all, in any order, of values that are as they were.
func TestModifyAll(t *testing.T) {
	b := newBoth(t)
	r := newMakes(1)
	for _, tm := range templates() {
		n := b.assert(tm.Name, fitting(tm.Name, 0)...)
		n = b.modify(n)
		for _, f := range tm.Slots {
			for _, v := range ofKind(f.Type) {
				n = b.modify(n, put(f.Name, v))
				n = b.modify(n, put(f.Name, v))
			}
		}
		for k := range 12 {
			var all []api.Put
			now := fitting(tm.Name, k/2)
			for i, f := range tm.Slots {
				all = append(all, put(f.Name, now[i]))
			}
			r.Shuffle(len(all), func(i, j int) { all[i], all[j] = all[j], all[i] })
			n = b.modify(n, all...)
			b.checkGet(n)
		}
		if got := b.m.given; n != got || b.m.at(n) < 0 {
			t.Fatalf("%s: the last one is %d, not %d", tm.Name, n, got)
		}
		b.check()
	}
}

// P8.1 (H2): only the one that is named is there no more, though others are just as it was, or come to be as they are.
func TestModifyOthers(t *testing.T) {
	b := newBoth(t)
	for range 3 {
		b.assert("pair", num("1"), num("2"))
		b.assert("twin", num("1"), num("2"))
	}
	b.check()
	b.modify(3, put("a", num("2")), put("b", num("1")))
	b.check()
	b.modify(7, put("b", num("2")), put("a", num("1")))
	b.check()
	b.modify(2, put("a", num("1")), put("b", num("1")))
	b.check()
	b.retract(1)
	b.check()
}

// P8.1 (H2): Modify of a fact that is not there is ErrNone, whatever the slots.
func TestModifyNone(t *testing.T) {
	b := newBoth(t)
	lists := [][]api.Put{nil, puts(put("total", num("2"))), puts(put("nothere", num("2"))), puts(put("total", num("01"))), puts(put("total", num("1")), put("total", num("1")))}
	refuse := func(l ...int) {
		t.Helper()
		for _, n := range l {
			for _, l := range lists {
				b.noModify(api.ErrNone, n, l...)
			}
		}
	}
	refuse(1, 0, -1, 2, math.MaxInt, math.MinInt, 1<<32+1)
	b.assert("order", fitting("order", 0)...)
	b.assert("bill", fitting("bill", 0)...)
	refuse(3, 0, -1, 300, math.MaxInt, math.MinInt, 1<<32+1)
	b.retract(1)
	b.modify(2)
	refuse(1, 2, 4)
	b.check()
}

// P8.1 (H2): Modify of what is no slot of the fact's own template, or of a slot twice, is ErrArg, and changes nothing.
func TestModifyNoSlot(t *testing.T) {
	b := newBoth(t)
	for i, tm := range templates() {
		n := b.assert(tm.Name, fitting(tm.Name, i)...)
		for _, name := range append(noSlots(), slotNames()...) {
			if slotOf(tm.Name, name) >= 0 {
				continue
			}
			for _, v := range vals(num("1"), text("a"), sym("a"), boolean("true"), num("01"), api.Value{}) {
				b.noModify(api.ErrArg, n, put(name, v))
			}
		}
		for j, f := range tm.Slots {
			v, other := ofKind(f.Type)[0], ofKind(f.Type)[1]
			b.noModify(api.ErrArg, n, put(f.Name, v), put(f.Name, v))
			b.noModify(api.ErrArg, n, put(f.Name, v), put(f.Name, other))
			b.noModify(api.ErrArg, n, put(f.Name, other), put(f.Name, v))
			g := tm.Slots[(j+1)%len(tm.Slots)]
			b.noModify(api.ErrArg, n, put(f.Name, v), put(g.Name, ofKind(g.Type)[0]), put(f.Name, other))
			b.noModify(api.ErrArg, n, put(f.Name, v), put("x", v))
			b.noModify(api.ErrArg, n, put("x", v), put(f.Name, v))
		}
	}
	b.check()
}

// P8.1 (H2): Modify by a value that is not right, or not of its slot's type, is ErrType, and changes nothing.
func TestModifyWrong(t *testing.T) {
	b := newBoth(t)
	for i, tm := range templates() {
		n := b.assert(tm.Name, fitting(tm.Name, i)...)
		for j, f := range tm.Slots {
			g := tm.Slots[(j+1)%len(tm.Slots)]
			for _, v := range stock() {
				if slices.Contains(ofKind(f.Type), v) {
					continue
				}
				b.noModify(api.ErrType, n, put(f.Name, v))
				b.noModify(api.ErrType, n, put(f.Name, v), put(g.Name, ofKind(g.Type)[0]))
				b.noModify(api.ErrType, n, put(g.Name, ofKind(g.Type)[1]), put(f.Name, v))
			}
		}
	}
	b.check()
}

// P8.1 (H2), P2: where a slot is wrong and a value too, in either order, ErrArg is told, as it is named first.
func TestModifyFaults(t *testing.T) {
	b := newBoth(t)
	b.assert("order", fitting("order", 0)...)
	wrong := puts(put("total", num("01")), put("total", sym("a")), put("by", num("1")), put("note", api.Value{}), put("paid", api.Value{Kind: 7}))
	for _, p := range wrong {
		for _, q := range puts(put("nothere", num("1")), put("", api.Value{}), put("a", num("1")), put("order", num("01"))) {
			b.noModify(api.ErrArg, 1, p, q)
			b.noModify(api.ErrArg, 1, q, p)
		}
		b.noModify(api.ErrArg, 1, p, p)
		b.noModify(api.ErrArg, 1, p, put(p.Name, fitting("order", 1)[slotOf("order", p.Name)]))
		b.noModify(api.ErrArg, 1, put(p.Name, fitting("order", 1)[slotOf("order", p.Name)]), p)
		b.noModify(api.ErrType, 1, p)
	}
	long := make([]api.Put, 100000)
	b.noModify(api.ErrArg, 1, long...)
	for i := range long {
		long[i] = put("total", num("1"))
	}
	b.noModify(api.ErrArg, 1, long...)
	b.check()
}

// P8.1 (H2): a Modify does with 300 facts too, as there are no more behind it.
func TestModifyFull(t *testing.T) {
	b := newBoth(t)
	b.fill(300)
	order := b.f.Of("order")
	n := b.modify(order[0].Id, put("total", num("7")))
	if n != 301 || b.f.Many() != 300 {
		t.Fatalf("got %d, many %d", n, b.f.Many())
	}
	b.modify(n, put("total", num("8")), put("by", sym("q")))
	b.noModify(api.ErrNone, n, put("total", num("8")))
	b.noModify(api.ErrArg, 302, put("totals", num("8")))
	b.noModify(api.ErrType, 302, put("total", sym("a")))
	b.noAssert(api.ErrTooMany, "flag")
	for _, x := range b.f.All() {
		b.modify(x.Id)
	}
	b.check()
}

// P8.1 (H3): With tells none for what is no slot, or no template, and for values that no slot may have.
func TestWithNone(t *testing.T) {
	b := newBoth(t)
	b.fill(60)
	for _, name := range noTemplates() {
		b.checkOf(name)
		for _, slot := range slotNames() {
			b.withNone(name, slot, ofKind(api.Num)...)
		}
	}
	for _, tm := range templates() {
		for _, slot := range append(noSlots(), slotNames()...) {
			if slotOf(tm.Name, slot) < 0 {
				b.withNone(tm.Name, slot, stock()...)
				continue
			}
			b.withNone(tm.Name, slot, strange()...)
		}
	}
	b.withNone("order", "total", text("1"), sym("1"), id("1"), boolean("true"))
	b.withNone("order", "by", text("a"), boolean("true"), text("true"))
	b.withNone("bill", "by", sym("a"))
}

// withNone fails, unless With tells none, for each of l.
func (b *both) withNone(tmpl string, slot string, l ...api.Value) {
	b.t.Helper()
	for _, v := range l {
		if got := b.f.With(tmpl, slot, v); len(got) != 0 {
			b.t.Fatalf("With %s %s%s: got %s", brief(tmpl), brief(slot), toldValues(vals(v)), told(got))
		}
		b.checkWith(tmpl, slot, v)
	}
}

// P8.1 (H3): Get, Many and Next behind each call, with errors and without.
func TestEachCall(t *testing.T) {
	f := made(t)
	step := func(many, next int, there ...int) {
		t.Helper()
		if f.Many() != many || f.Next() != next {
			t.Fatalf("got many %d, next %d, want %d, %d", f.Many(), f.Next(), many, next)
		}
		for n := range 9 {
			if x, is := f.Get(n); is != slices.Contains(there, n) || is && x.Id != n || !is && !alikeOne(x, api.Fact{}) {
				t.Fatalf("Get of %d: got %s, %v", n, told([]api.Fact{x}), is)
			}
		}
	}
	step(0, 1)
	f.Assert("flag", nil)
	step(1, 2, 1)
	f.Assert("flag", vals(num("1")))
	step(1, 2, 1)
	f.Assert("bill", vals(num("1"), text("1")))
	step(2, 3, 1, 2)
	f.Retract(3)
	step(2, 3, 1, 2)
	f.Modify(1, nil)
	step(2, 4, 2, 3)
	f.Modify(1, nil)
	step(2, 4, 2, 3)
	f.Modify(2, puts(put("by", num("1"))))
	step(2, 4, 2, 3)
	f.Modify(2, puts(put("to", num("1"))))
	step(2, 4, 2, 3)
	f.Modify(2, puts(put("by", text("2"))))
	step(2, 5, 3, 4)
	f.Retract(3)
	step(1, 5, 4)
	f.Retract(4)
	step(0, 5)
	f.Assert("none", nil)
	step(0, 5)
	f.Assert("flag", nil)
	step(1, 6, 5)
}
