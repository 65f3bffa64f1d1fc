package bind_test

import (
	"math"
	"slices"
	"strconv"
	"testing"

	"tribunal/api"
	"tribunal/bind"
)

// P14.1 (N3): what a fact makes of patterns of variables and values.
func TestMatch(t *testing.T) {
	matches(t, pat("order", asks("by", "who")), "", ann(3), on(of(to("who", sym("ann"))), 3))
	matches(t, pat("order", asks("total", "n"), asks("by", "who"), asks("note", "a"), asks("paid", "z")), "", ann(3), on(of(to("a", text("a, b")), to("n", num("3/2")), to("who", sym("ann")), to("z", boolean("true"))), 3))
	matches(t, pat("order", has("by", sym("ann")), asks("total", "n"), has("paid", boolean("true"))), "f", ann(3), on(of(to("f", id("3")), to("n", num("3/2"))), 3))
	matches(t, pat("order", has("by", sym("ann")), has("total", num("3/2")), has("paid", boolean("true")), has("note", text("a, b"))), "", ann(3), on(of(), 3))
	matches(t, pat("pair", asks("b", "x"), asks("a", "y")), "", fact(1, "pair", num("1"), num("2")), on(ones("x=2 y=1"), 1))
	matches(t, pat("other", asks("a", "x"), has("b", num("2"))), "", fact(1, "other", num("1"), num("2")), on(ones("x=1"), 1))
}

// P14.1 (N3): patterns without slots, of a template with some, and of one with none.
func TestMatchNoSlots(t *testing.T) {
	matches(t, pat("order"), "", ann(3), on(of(), 3))
	matches(t, pat("order"), "f", ann(3), on(of(to("f", id("3"))), 3))
	matches(t, pat("empty"), "", fact(9, "empty"), on(of(), 9))
	matches(t, pat("empty"), "f", api.Fact{Id: 9, Tmpl: "empty", Vals: []api.Value{}}, on(of(to("f", id("9"))), 9))
	misses(t, pat("empty"), "", fact(9, "empty", num("1")))
	misses(t, pat("empty"), "", fact(9, "order"))
}

// P14.1 (N3): a fact of another template than the pattern's, also of one with the same slots, and of a template that there is none of.
func TestMatchTemplates(t *testing.T) {
	vals := []api.Value{num("1"), num("2")}
	p := []api.Slot{asks("a", "x")}
	matches(t, pat("pair", p...), "", fact(1, "pair", vals...), on(ones("x=1"), 1))
	for _, c := range [][2]string{{"pair", "other"}, {"other", "pair"}, {"pair", "empty"}, {"nothere", "nothere"}, {"pair", "nothere"}, {"nothere", "pair"}, {"", ""}, {"", "pair"}, {"pair", ""}, {"PAIR", "pair"}, {"pair", "pai"}, {"pair", "pairs"}} {
		misses(t, pat(c[0], p...), "", fact(1, c[1], vals...))
		misses(t, pat(c[0]), "", fact(1, c[1], vals...))
		misses(t, pat(c[0]), "f", fact(1, c[1]))
	}
}

// P14.1 (N3): values that do not fit the template, whatever the pattern asks for, also in slots that it does not name.
func TestMatchFits(t *testing.T) {
	for _, p := range []api.Pat{pat("order"), pat("order", asks("by", "who")), pat("order", has("by", sym("ann"))), pat("order", asks("note", "n"))} {
		for n := range 7 {
			f := ann(3)
			f.Vals = append(f.Vals, text("more"), text("more"), text("more"))[:n]
			if n != 4 {
				misses(t, p, "", f)
				misses(t, p, "f", f)
			}
		}
		for i := range 4 {
			for _, v := range append(rightValues(), wrongValues()...) {
				f := ann(3)
				if f.Vals[i].Kind == v.Kind && slices.Contains(rightValues(), v) {
					continue
				}
				f.Vals[i] = v
				misses(t, p, "", f)
			}
		}
	}
	f := fact(1, "pair", num("2/4"), num("1"))
	misses(t, pat("pair", has("a", num("2/4"))), "", f)
	misses(t, pat("pair", asks("a", "x")), "", f)
}

// P14.1 (N3): a slot that is none, at each place of a pattern, by a variable or a value, also behind one that already says false.
func TestMatchNoSlot(t *testing.T) {
	for _, none := range []string{"", "nothere", "By", "bye", "b", "order", "who", "a", "by "} {
		for _, s := range []api.Slot{asks(none, "x"), asks(none, "who"), has(none, sym("ann")), has(none, api.Value{}), has(none, num("1"))} {
			for i := range 4 {
				right := []api.Slot{asks("by", "who"), has("total", num("3/2")), asks("note", "n")}
				misses(t, pat("order", slices.Insert(right, i, s)...), "", ann(3))
			}
			misses(t, pat("order", s), "f", ann(3))
			misses(t, pat("order", has("by", sym("bob")), s), "", ann(3))
			misses(t, pat("order", s, has("by", sym("bob"))), "", ann(3))
			misses(t, pat("empty", s), "", fact(1, "empty"))
		}
	}
	misses(t, pat("pair", asks("by", "x")), "", fact(1, "pair", num("1"), num("2")))
}

// P14.1 (N3): a value that is the fact's, and ones that are not, also of the same text of another kind, at each slot.
func TestMatchValues(t *testing.T) {
	f := fact(5, "wide", num("1"), text("true"), sym("true"), boolean("true"), num("1"), text("1"), sym("a"), boolean("false"))
	for i, field := range few()[4].Slots {
		p := pat("wide", asks("a", "x"), has(field.Name, f.Vals[i]))
		matches(t, p, "", f, on(ones("x=1"), 5))
		for _, v := range append(append(rightValues(), wrongValues()...), text("true"), sym("true"), boolean("true"), text("1"), id("1"), set("1"), sym("1"), boolean("1"), api.Value{S: "true"}) {
			if v == f.Vals[i] {
				continue
			}
			p.Slots[1].T.V = v
			misses(t, p, "", f)
			misses(t, pat("wide", has(field.Name, v)), "f", f)
		}
	}
}

// P14.1 (N3): a variable goes ahead of a value that stands beside it.
func TestMatchVariableAndValue(t *testing.T) {
	for _, v := range []api.Value{sym("ann"), sym("bob"), num("1"), {Kind: 9}} {
		both := api.Slot{Name: "by", T: api.Term{Var: "who", V: v}}
		matches(t, pat("order", both), "", ann(3), on(of(to("who", sym("ann"))), 3))
	}
}

// P14.1 (N3): one variable at two slots, whose values are alike, and are not, with others between.
func TestMatchOneVariable(t *testing.T) {
	p := pat("pair", asks("a", "x"), asks("b", "x"))
	matches(t, p, "", fact(1, "pair", num("7"), num("7")), on(ones("x=7"), 1))
	matches(t, p, "f", fact(1, "pair", num("7"), num("7")), on(of(to("f", id("1")), to("x", num("7"))), 1))
	misses(t, p, "", fact(1, "pair", num("7"), num("8")))
	misses(t, pat("texts", asks("t", "x"), asks("s", "x")), "", fact(1, "texts", text("a"), sym("a")))
	for i, slot := range few()[4].Slots {
		for k, other := range few()[4].Slots {
			f := fact(1, "wide", num("1"), text("a"), sym("a"), boolean("true"), num("1"), text("a"), sym("a"), boolean("true"))
			p := pat("wide", asks(slot.Name, "x"), asks("a", "b"), asks(other.Name, "x"), asks("a", "y"))
			if i%4 != k%4 {
				misses(t, p, "", f)
				continue
			}
			matches(t, p, "", f, on(of(to("b", num("1")), to("x", f.Vals[i]), to("y", num("1"))), 1))
			if i != k {
				f.Vals[i] = map[int]api.Value{1: num("2"), 2: text("b"), 3: sym("b"), 4: boolean("false")}[slot.Type]
				misses(t, p, "", f)
			}
		}
	}
}

// P14.1 (N3): three of one variable, of which one is unlike, at each place.
func TestMatchThreeOfOne(t *testing.T) {
	p := pat("wide", asks("a", "x"), asks("e", "x"), asks("a", "x"))
	f := fact(1, "wide", num("1"), text("a"), sym("a"), boolean("true"), num("1"), text("a"), sym("a"), boolean("true"))
	matches(t, p, "", f, on(ones("x=1"), 1))
	f.Vals[4] = num("2")
	misses(t, p, "", f)
	misses(t, pat("wide", asks("e", "x"), asks("a", "x"), asks("a", "x")), "", f)
	misses(t, pat("wide", asks("a", "x"), asks("a", "x"), asks("e", "x")), "", f)
}

// P14.1 (N3): one slot named twice: by two values, by a value and a variable, by two variables.
func TestMatchOneSlotTwice(t *testing.T) {
	f := fact(4, "pair", num("1"), num("2"))
	matches(t, pat("pair", has("a", num("1")), has("a", num("1"))), "", f, on(of(), 4))
	misses(t, pat("pair", has("a", num("1")), has("a", num("2"))), "", f)
	misses(t, pat("pair", has("a", num("2")), has("a", num("1"))), "", f)
	matches(t, pat("pair", has("a", num("1")), asks("a", "x")), "", f, on(ones("x=1"), 4))
	matches(t, pat("pair", asks("a", "x"), has("a", num("1"))), "", f, on(ones("x=1"), 4))
	misses(t, pat("pair", asks("a", "x"), has("a", num("2"))), "", f)
	misses(t, pat("pair", has("a", num("2")), asks("a", "x")), "", f)
	matches(t, pat("pair", asks("a", "y"), asks("a", "x")), "", f, on(ones("x=1 y=1"), 4))
	matches(t, pat("pair", asks("a", "x"), asks("a", "x")), "", f, on(ones("x=1"), 4))
	misses(t, pat("pair", asks("a", "x"), asks("a", "x"), asks("b", "x")), "", f)
}

// P14.1 (N3): the fact's variable: none, a name at each place of the row, a text that is no name, and a slot's variable, whose value is no fact's number.
func TestMatchAs(t *testing.T) {
	p := pat("pair", asks("a", "d"), asks("b", "f"))
	f := fact(12, "pair", num("1"), num("12"))
	d, e := to("d", num("1")), to("f", num("12"))
	matches(t, p, "", f, on(of(d, e), 12))
	for _, as := range []string{"a", "0", "A", "\x00", " "} {
		matches(t, p, as, f, on(of(to(as, id("12")), d, e), 12))
	}
	for _, as := range []string{"e", "d0", "d ", "dd", times("d", 25)} {
		matches(t, p, as, f, on(of(d, to(as, id("12")), e), 12))
	}
	for _, as := range []string{"g", "f0", "\xff", times("z", 30)} {
		matches(t, p, as, f, on(of(d, e, to(as, id("12"))), 12))
	}
	misses(t, p, "d", f)
	misses(t, p, "f", f)
	misses(t, pat("texts", asks("t", "x")), "x", fact(1, "texts", text("1"), sym("a")))
	for _, as := range append(rightNames(), noNames()...) {
		checkMatch(t, p, as, f)
	}
}

// P14.1 (N3): names of variables that are none are taken as they are.
func TestMatchNames(t *testing.T) {
	f := fact(1, "pair", num("1"), num("2"))
	for _, x := range append(rightNames(), noNames()...) {
		for _, y := range append(rightNames(), noNames()...) {
			if x == "" || y == "" {
				continue
			}
			got, is := checkMatch(t, pat("pair", asks("a", x), asks("b", y)), "", f)
			if is != (x != y) || is && len(got.Binds) != 2 {
				t.Fatalf("%q and %q: got %s, %v", x, y, brief(got), is)
			}
		}
	}
}

// P14.1 (N3): any fact's number, by its decimals.
func TestMatchIds(t *testing.T) {
	for n, s := range map[int]string{1: "1", 0: "0", -1: "-1", 10: "10", 999999999: "999999999", 1000000000: "1000000000", math.MinInt64: "-9223372036854775808", math.MaxInt64: "9223372036854775807"} {
		matches(t, pat("empty"), "f", fact(n, "empty"), on(of(to("f", id(s))), n))
		matches(t, pat("empty"), "", fact(n, "empty"), on(of(), n))
		matches(t, pat("order", asks("by", "g")), "f", ann(n), on(of(to("f", id(s)), to("g", sym("ann"))), n))
	}
	for _, n := range append(rightIds(), wrongIds()...) {
		matches(t, pat("empty"), "f", fact(n, "empty"), on(of(to("f", id(strconv.Itoa(n)))), n))
	}
}

// P14.1 (N3), P2: any facts and patterns of few names, held against another telling; what is told of right names and numbers is right, and stands on that fact alone.
func TestMatchAny(t *testing.T) {
	m, s, told := newMaker(8), made(t, few()), map[bool]int{}
	for range 30000 {
		f := m.fact()
		p, as := m.pat(f), m.as()
		got, is := bind.Match(s, p, as, f)
		if want, wantIs := match(few(), p, as, f); is != wantIs || !alike(got, want) {
			t.Fatalf("%s as %q, of %s: got %s, %v, want %s, %v", brief(p), as, brief(f), brief(got), is, brief(want), wantIs)
		}
		told[is]++
		if !is {
			nothing(t, got, is)
			continue
		}
		names := as == "" || nameForm.MatchString(as)
		for _, slot := range p.Slots {
			names = names && (slot.T.Var == "" || nameForm.MatchString(slot.T.Var))
		}
		number := f.Id > 0 && (as == "" || f.Id <= 999999999)
		if bind.Right(got) != (names && number) || !slices.Equal(got.Ids, []int{f.Id}) {
			t.Fatalf("%s as %q, of %s: got %s", brief(p), as, brief(f), brief(got))
		}
	}
	if told[true] < 5000 || told[false] < 5000 {
		t.Errorf("%v", told)
	}
}

// P14.1 (N3): at each edge of what a fact's number may be, what is told is right, and stands on that fact alone.
func TestMatchIsRight(t *testing.T) {
	s := made(t, few())
	for _, n := range []int{1, 2, 9, 10, 11, 99, 100, 123456789, 999999998, 999999999} {
		got, is := bind.Match(s, pat("order", asks("by", "z"), asks("note", "a"), has("total", num("3/2"))), "f", ann(n))
		if !is || !bind.Right(got) || !slices.Equal(got.Ids, []int{n}) || at(got, "f") != id(strconv.Itoa(n)) {
			t.Errorf("%d: got %s, %v", n, brief(got), is)
		}
	}
}

// P14.1 (N3), P2: With, in turn, by slots and then of the fact's variable, tells what Match does.
func TestMatchByWith(t *testing.T) {
	m, s, told := newMaker(9), made(t, few()), 0
	for range 10000 {
		f := m.fact()
		p, as := m.pat(f), m.as()
		got, is := bind.Match(s, p, as, f)
		if p.Tmpl != f.Tmpl || s.Fits(f.Tmpl, f.Vals) != api.OK {
			nothing(t, got, is)
			continue
		}
		var want api.Tuple
		wantIs := true
		for _, slot := range p.Slots {
			place, slotIs := s.Slot(p.Tmpl, slot.Name)
			switch {
			case !slotIs:
				wantIs = false
			case slot.T.Var == "":
				wantIs = wantIs && slot.T.V == f.Vals[place]
			case wantIs:
				want, wantIs = bind.With(want, slot.T.Var, f.Vals[place])
			}
		}
		if wantIs && as != "" {
			want, wantIs = bind.With(want, as, id(strconv.Itoa(f.Id)))
		}
		if is != wantIs || is && !alike(got, on(want, f.Id)) {
			t.Fatalf("%s as %q, of %s: got %s, %v, want %s, %v", brief(p), as, brief(f), brief(got), is, brief(want), wantIs)
		}
		told++
	}
	if told < 3000 {
		t.Errorf("just %d", told)
	}
}
