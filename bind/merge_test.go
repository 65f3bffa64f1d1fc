package bind_test

import (
	"slices"
	"testing"

	"tribunal/api"
	"tribunal/bind"
)

// P14.1 (N2): a name at each place of a row: ahead of all, behind all, and between.
func TestWithNew(t *testing.T) {
	base := on(ones("b=1 d=2 f=3"), 7, 3, 7)
	for name, want := range map[string]string{"a": "a=9 b=1 d=2 f=3", "b0": "b=1 b0=9 d=2 f=3", "c": "b=1 c=9 d=2 f=3", "e": "b=1 d=2 e=9 f=3", "f0": "b=1 d=2 f=3 f0=9", "g": "b=1 d=2 f=3 g=9", "bb": "b=1 bb=9 d=2 f=3"} {
		got, is := checkWith(t, base, name, num("9"))
		same(t, got, is, on(ones(want), 7, 3, 7))
	}
	got, is := checkWith(t, api.Tuple{}, "x", num("1"))
	same(t, got, is, ones("x=1"))
	got, is = checkWith(t, on(of(), 5), "x", num("1"))
	same(t, got, is, on(ones("x=1"), 5))
	for _, v := range append(rightValues(), wrongValues()...) {
		got, is := checkWith(t, base, "c", v)
		same(t, got, is, on(of(to("b", num("1")), to("c", v), to("d", num("2")), to("f", num("3"))), 7, 3, 7))
	}
}

// P14.1 (N2): a name that is there, at each place, with just that value, with another one of its kind, and with its text of another kind.
func TestWithThere(t *testing.T) {
	base := on(ones("b=1 d=1 f=1"), 2, 1)
	for _, name := range []string{"b", "d", "f"} {
		got, is := checkWith(t, base, name, num("1"))
		same(t, got, is, base)
		for _, v := range []api.Value{num("2"), num("01"), num(""), text("1"), id("1"), set("1"), sym("1"), boolean("1"), {}, {S: "1"}, {Kind: 7, S: "1"}, {Kind: -1, S: "1"}} {
			got, is := checkWith(t, base, name, v)
			nothing(t, got, is)
		}
	}
	l := append(rightValues(), wrongValues()...)
	for i, v := range l {
		for k, w := range l {
			if got, is := checkWith(t, on(of(to("x", v)), 1), "x", w); is != (i == k) {
				t.Fatalf("%s with %s: got %s, %v", brief(v), brief(w), brief(got), is)
			}
		}
	}
}

// P14.1 (N2): names that are none, but rise, and wrong values and facts' numbers, are taken as they are.
func TestWithWrong(t *testing.T) {
	for _, name := range append(noNames(), rightNames()...) {
		for _, other := range append(noNames(), rightNames()...) {
			one := on(of(to(name, num("x"))), 0, -5)
			got, is := checkWith(t, one, other, num("y"))
			switch {
			case other == name:
				nothing(t, got, is)
			case other < name:
				same(t, got, is, on(of(to(other, num("y")), to(name, num("x"))), 0, -5))
			default:
				same(t, got, is, on(of(to(name, num("x")), to(other, num("y"))), 0, -5))
			}
			got, is = checkWith(t, one, name, num("x"))
			same(t, got, is, one)
		}
	}
	for _, v := range wrongValues() {
		got, is := checkWith(t, on(of(to("x", v), to("y", v)), wrongIds()...), "x", v)
		same(t, got, is, on(of(to("x", v), to("y", v)), wrongIds()...))
		got, is = checkWith(t, on(of(to("x", v)), wrongIds()...), "y", v)
		same(t, got, is, on(of(to("x", v), to("y", v)), wrongIds()...))
	}
}

// P14.1 (N2): tuples whose names rise, held against another telling.
func TestWithAny(t *testing.T) {
	m, told := newMaker(3), [3]int{}
	for range 20000 {
		one := m.rising()
		name, v := nameFor(m, one), m.value()
		if m.Intn(3) == 0 {
			v = at(one, name)
		}
		got, is := checkWith(t, one, name, v)
		switch {
		case !is:
			told[0]++
		case len(got.Binds) == len(one.Binds):
			told[1]++
		default:
			told[2]++
		}
	}
	if slices.Min(told[:]) < 500 {
		t.Errorf("false, the same and more: %v", told)
	}
}

// nameFor is a name of a tuple, or any.
func nameFor(m maker, t api.Tuple) string {
	if len(t.Binds) > 0 && m.Intn(2) == 0 {
		return one(m, t.Binds...).Name
	}
	return one(m, append(noNames(), rightNames()...)...)
}

// at is a tuple's value of a name, a zero one if there is none.
func at(t api.Tuple, name string) api.Value { return byNames(t.Binds)[name] }

// P14.1 (N2): With of what is not in order ends, without a panic.
func TestWithOfNoRow(t *testing.T) {
	m := newMaker(4)
	for range 5000 {
		one := m.any()
		if got, is := bind.With(one, nameFor(m, one), m.value()); !is {
			nothing(t, got, is)
		}
	}
}

// P14.1 (N2): tuples with no name in common, with some, and with all; the Ids of the first ahead of the other's, in whatever order they are.
func TestMerge(t *testing.T) {
	for _, c := range []struct{ a, b, want api.Tuple }{
		{on(ones("a=1 b=2"), 1), on(ones("c=3 d=4"), 2), on(ones("a=1 b=2 c=3 d=4"), 1, 2)},
		{on(ones("c=3 d=4"), 1), on(ones("a=1 b=2"), 2), on(ones("a=1 b=2 c=3 d=4"), 1, 2)},
		{on(ones("a=1 c=3"), 9, 1), on(ones("b=2 d=4"), 5, 2), on(ones("a=1 b=2 c=3 d=4"), 9, 1, 5, 2)},
		{on(ones("b=2"), 3), on(ones("a=1 c=3"), 3), on(ones("a=1 b=2 c=3"), 3, 3)},
		{on(ones("a=1 b=2 c=3"), 1), on(ones("b=2 c=3 d=4"), 2), on(ones("a=1 b=2 c=3 d=4"), 1, 2)},
		{on(ones("a=1 b=2 c=3"), 1), on(ones("b=2"), 2), on(ones("a=1 b=2 c=3"), 1, 2)},
		{on(ones("b=2"), 1), on(ones("a=1 b=2 c=3"), 2), on(ones("a=1 b=2 c=3"), 1, 2)},
		{on(ones("a=1 b=2"), 2), on(ones("a=1 b=2"), 1), on(ones("a=1 b=2"), 2, 1)},
		{on(ones("a=1 x=1"), 2), on(ones("x=1 x1=1"), 1), on(ones("a=1 x=1 x1=1"), 2, 1)},
		{on(ones("a=1 b=2"), 2, 1, 2), api.Tuple{}, on(ones("a=1 b=2"), 2, 1, 2)},
		{api.Tuple{}, on(ones("a=1 b=2"), 2, 1, 2), on(ones("a=1 b=2"), 2, 1, 2)},
		{on(of(), 2), on(ones("a=1"), 1), on(ones("a=1"), 2, 1)},
		{ones("a=1"), on(of(), 2), on(ones("a=1"), 2)},
		{api.Tuple{}, api.Tuple{}, api.Tuple{}},
		{on(of(), 1, 2), on(of(), 1), on(of(), 1, 2, 1)},
		{of(to("a", text("a, b")), to("c", set("1, 2"))), of(to("b", api.Value{}), to("c", set("1, 2"))), of(to("a", text("a, b")), to("b", api.Value{}), to("c", set("1, 2")))},
	} {
		got, is := checkMerge(t, c.a, c.b)
		same(t, got, is, c.want)
	}
}

// P14.1 (N2): one with itself has its Ids twice.
func TestMergeWithItself(t *testing.T) {
	m := newMaker(5)
	for range 300 {
		a := m.tuple()
		got, is := checkMerge(t, a, a)
		same(t, got, is, on(a, append(slices.Clone(a.Ids), a.Ids...)...))
	}
}

// P14.1 (N2): a name whose values are unlike, at the first, at the last and at a middle place, among others that are alike, or of one tuple alone.
func TestMergeUnlike(t *testing.T) {
	names := []string{"b", "d", "f", "h", "j"}
	for i := range names {
		for _, v := range []api.Value{num("2"), text("1"), id("1"), set("1"), {}, sym("a"), boolean("true")} {
			a, b := on(ones("b=1 d=1 f=1 h=1 j=1"), 1), on(ones("b=1 d=1 f=1 h=1 j=1"), 2)
			b.Binds[i].V = v
			for _, c := range [][2]api.Tuple{{a, b}, {b, a}, {a, of(b.Binds[i])}, {of(b.Binds[i]), a}, {a, of(to("a", v), b.Binds[i], to("z", v))}, {of(to("a", v), b.Binds[i], to("z", v)), a}} {
				got, is := checkMerge(t, c[0], c[1])
				nothing(t, got, is)
			}
		}
	}
	l := rightValues()
	for i, v := range l {
		for k, w := range l {
			if got, is := checkMerge(t, of(to("a", v), to("x", v)), of(to("x", w), to("z", w))); is != (i == k) {
				t.Fatalf("%s and %s: got %s, %v", brief(v), brief(w), brief(got), is)
			}
		}
	}
}

// P14.1 (N2): right tuples of few names and values, and of many, held against another telling.
func TestMergeAny(t *testing.T) {
	m, told := newMaker(6), map[bool]int{}
	for range 20000 {
		_, is := checkMerge(t, m.tuple(), m.tuple())
		told[is]++
	}
	if told[true] < 4000 || told[false] < 4000 {
		t.Errorf("%v", told)
	}
	for range 3000 {
		checkMerge(t, m.rising(), m.rising())
	}
}

// P14.1 (N2), P1: Merge of what is not in order ends, without a panic.
func TestMergeOfNoRow(t *testing.T) {
	m := newMaker(7)
	for range 5000 {
		if got, is := bind.Merge(m.any(), m.any()); !is {
			nothing(t, got, is)
		}
	}
}
