package alpha_test

import (
	"fmt"
	"slices"
	"testing"

	"tribunal/api"
)

// patterns is one of each sort that may be handed in.
func patterns() []api.Pat {
	return []api.Pat{
		{},
		pat("nothere"), pat("nothere", asks("a", "x")), pat("PAIR", asks("a", "x")),
		pat("pair"), pat("flag"), pat("pair", []api.Slot{}...),
		pat("pair", asks("c", "x")), pat("pair", asks("", "x")), pat("flag", asks("a", "x")), pat("pair", asks("a", "x"), has("by", num("1"))),
		pat("pair", asks("a", "x"), has("b", num("2"))), pat("order", has("by", sym("ann")), asks("total", "n")),
		pat("pair", asks("a", "x"), asks("b", "x")),
		pat("pair", asks("a", "x"), asks("a", "y")), pat("pair", has("a", num("1")), has("a", num("2"))),
		pat("pair", asks("a", "X"), asks("b", "")), pat("pair", has("a", num("01"))), pat("pair", has("a", api.Value{Kind: 9})),
	}
}

// P15.1 (O1): a new node has no facts, of whatever pattern, and whatever the fact's variable is.
func TestNew(t *testing.T) {
	for _, p := range patterns() {
		for _, as := range []string{"", "f", "x", "F", "1", "a b", "\xff"} {
			b := of(t, p, as)
			b.all()
			for _, n := range append(edges(), 1, 2, 3) {
				tells(t, b.del(n))
			}
			b.all()
		}
	}
}

// P15.1 (O2): what a fact makes of a pattern of values and variables is told as it comes, and as it goes.
func TestValuesAndVariables(t *testing.T) {
	makes(t, pat("order", asks("by", "who")), "", order(3, "ann", "3/2"), "who='ann #3")
	makes(t, pat("order", asks("note", "a"), asks("by", "who"), asks("paid", "b"), asks("total", "z")), "", order(3, "ann", "3/2"), `a="a, b" b=true who='ann z=3/2 #3`)
	makes(t, pat("order", has("by", sym("ann")), asks("total", "n"), has("paid", boolean("true"))), "f", order(3, "ann", "3/2"), "f=#3 n=3/2 #3")
	makes(t, pat("order", has("by", sym("ann")), has("total", num("3/2")), has("note", text("a, b"))), "", order(3, "ann", "3/2"), "#3")
	makes(t, pat("pair", asks("b", "x"), asks("a", "y")), "", pair(1, "1", "2"), "x=2 y=1 #1")
	makes(t, pat("other", asks("a", "x"), has("b", num("2"))), "", other(1, "1", "2"), "x=1 #1")
}

// P15.1: a pattern of a template that there is none of makes nothing, of its own facts neither.
func TestNoTemplate(t *testing.T) {
	for _, name := range []string{"", "nothere", "Pair", "pair ", "pai", "pairs"} {
		for _, f := range []api.Fact{fact(1, name), fact(1, name, num("1"), num("2")), pair(1, "1", "2"), fact(1, "flag"), fact(1, "")} {
			makes(t, pat(name), "", f, "")
			makes(t, pat(name), "f", f, "")
			makes(t, pat(name, asks("a", "x")), "", f, "")
		}
	}
}

// P15.1: a pattern without slots takes each fact of its template, also one without values.
func TestNoSlots(t *testing.T) {
	makes(t, pat("pair"), "", pair(1, "1", "2"), "#1")
	makes(t, pat("pair"), "f", pair(1, "1", "2"), "f=#1 #1")
	makes(t, api.Pat{Tmpl: "pair", Slots: []api.Slot{}}, "f", pair(1, "1", "2"), "f=#1 #1")
	makes(t, pat("flag"), "", fact(7, "flag"), "#7")
	makes(t, pat("flag"), "f", api.Fact{Id: 7, Tmpl: "flag", Vals: []api.Value{}}, "f=#7 #7")
	makes(t, pat("flag"), "", pair(7, "1", "2"), "")
	makes(t, pat("pair"), "", fact(7, "flag"), "")
}

// P15.1: a pattern that names what is no slot makes nothing, at whatever place that stands.
func TestNoSlot(t *testing.T) {
	for _, none := range []string{"", "c", "A", "a ", "by", "pair", "x"} {
		for _, s := range []api.Slot{asks(none, "x"), asks(none, "y"), has(none, num("1")), has(none, api.Value{})} {
			for i := range 3 {
				right := []api.Slot{asks("a", "x"), has("b", num("2"))}
				makes(t, pat("pair", slices.Insert(right, i, s)...), "", pair(1, "1", "2"), "")
			}
			makes(t, pat("pair", s), "f", pair(1, "1", "2"), "")
			makes(t, pat("flag", s), "", fact(1, "flag"), "")
		}
	}
}

// P15.1: one variable at two slots has one value: both are alike, or the fact makes nothing.
func TestOneVariable(t *testing.T) {
	p := pat("pair", asks("a", "x"), asks("b", "x"))
	makes(t, p, "", pair(1, "7", "7"), "x=7 #1")
	makes(t, p, "f", pair(1, "7", "7"), "f=#1 x=7 #1")
	makes(t, p, "", pair(1, "7", "8"), "")
	p = pat("wide", asks("a", "x"), asks("b", "y"), asks("e", "x"), asks("c", "z"), asks("f", "y"))
	f := fact(2, "wide", num("1"), text("a"), sym("a"), boolean("true"), num("1"), text("a"), sym("b"), boolean("false"))
	makes(t, p, "", f, `x=1 y="a" z='a #2`)
	f.Vals[5] = text("b")
	makes(t, p, "", f, "")
	f.Vals[5], f.Vals[4] = text("a"), num("2")
	makes(t, p, "", f, "")
	makes(t, pat("wide", asks("b", "x"), asks("c", "x")), "", f, "")
}

// P15.1: one slot named twice is asked twice.
func TestOneSlotTwice(t *testing.T) {
	f := pair(4, "1", "2")
	makes(t, pat("pair", asks("a", "x"), asks("a", "x")), "", f, "x=1 #4")
	makes(t, pat("pair", asks("a", "y"), asks("a", "x")), "", f, "x=1 y=1 #4")
	makes(t, pat("pair", asks("a", "x"), has("a", num("1"))), "", f, "x=1 #4")
	makes(t, pat("pair", has("a", num("1")), asks("a", "x")), "", f, "x=1 #4")
	makes(t, pat("pair", has("a", num("1")), has("a", num("1"))), "", f, "#4")
	makes(t, pat("pair", asks("a", "x"), has("a", num("2"))), "", f, "")
	makes(t, pat("pair", has("a", num("2")), asks("a", "x")), "", f, "")
	makes(t, pat("pair", has("a", num("1")), has("a", num("2"))), "", f, "")
}

// P15.1: the fact's variable has its number; none does, if it is empty; one that a slot has too makes nothing, as no slot's value is a fact's number.
func TestAs(t *testing.T) {
	p, f := pat("order", asks("by", "m"), asks("total", "x")), order(12, "ann", "12")
	makes(t, p, "", f, "m='ann x=12 #12")
	makes(t, p, "a", f, "a=#12 m='ann x=12 #12")
	makes(t, p, "n", f, "m='ann n=#12 x=12 #12")
	makes(t, p, "z", f, "m='ann x=12 z=#12 #12")
	makes(t, p, "m", f, "")
	makes(t, p, "x", f, "")
	makes(t, pat("order", asks("by", "m"), asks("total", "12")), "12", f, "")
	makes(t, pat("order", has("total", num("12"))), "total", f, "total=#12 #12")
	for _, as := range []string{"F", "1", "#12", " ", "a b", "\x00", "f=", "?f", "\xff", "\u00e9"} {
		makes(t, pat("order"), as, f, as+"=#12 #12")
	}
	makes(t, p, "M", f, "M=#12 m='ann x=12 #12")
}

// P15.1 (O2): a fact of another template makes nothing, also of one with the same slots.
func TestOtherTemplate(t *testing.T) {
	for _, as := range []string{"", "f"} {
		for _, p := range []api.Pat{pat("pair"), pat("pair", asks("a", "x")), pat("pair", has("a", num("1")), asks("b", "y"))} {
			for _, f := range []api.Fact{other(1, "1", "2"), fact(1, "flag"), order(1, "ann", "1"), fact(1, "nothere", num("1"), num("2")), fact(1, "", num("1"), num("2")), fact(1, "Pair", num("1"), num("2"))} {
				makes(t, p, as, f, "")
			}
		}
	}
}

// P15.1 (O2): a fact whose values do not fit its template makes nothing, also where the pattern does not ask for the one that is wrong.
func TestNotFitting(t *testing.T) {
	for _, p := range []api.Pat{pat("order"), pat("order", asks("by", "who")), pat("order", has("by", sym("ann"))), pat("order", asks("note", "n"), asks("total", "m"))} {
		f := order(5, "ann", "1")
		for n := range 7 {
			few := f
			if few.Vals = append(slices.Clip(f.Vals), text("a"), text("a"), text("a"))[:n]; n != 4 {
				makes(t, p, "", few, "")
				makes(t, p, "f", few, "")
			}
		}
		for i, v := range f.Vals {
			for _, x := range []api.Value{num("2/2"), num("01"), num("a"), sym("A"), sym(""), sym("1"), text("\""), text("\n"), boolean("True"), boolean(""), {}, {Kind: api.Id, S: "1"}, {Kind: api.Set, S: "1"}, {Kind: 9, S: v.S}, {Kind: v.Kind + 1<<32, S: v.S}, num("1"), sym("ann"), text("a, b"), boolean("true")} {
				wrong := f
				if wrong.Vals = slices.Clone(f.Vals); v != x {
					wrong.Vals[i] = x
					makes(t, p, "f", wrong, "")
				}
			}
		}
	}
	makes(t, pat("pair", has("a", num("2/2"))), "", pair(1, "2/2", "1"), "")
	makes(t, pat("flag"), "", fact(1, "flag", num("1")), "")
}

// P15.1 (O2): a fact that has another value than the pattern makes nothing, also one of the same text of another kind.
func TestOtherValue(t *testing.T) {
	makes(t, pat("pair", has("a", num("1"))), "", pair(1, "1", "2"), "#1")
	makes(t, pat("pair", has("a", num("2"))), "", pair(1, "1", "2"), "")
	makes(t, pat("pair", has("a", num("1")), has("b", num("1"))), "", pair(1, "1", "2"), "")
	makes(t, pat("pair", has("a", num("2")), asks("b", "x")), "f", pair(1, "1", "2"), "")
	same := "true"
	f := fact(1, "order", sym(same), num("1"), boolean(same), text(same))
	for kind := -1; kind < 9; kind++ {
		v := api.Value{Kind: kind, S: same}
		for slot, own := range map[string]int{"by": api.Sym, "paid": api.Bool, "note": api.Text} {
			want := ""
			if kind == own {
				want = "#1"
			}
			makes(t, pat("order", has(slot, v)), "", f, want)
		}
		if v.S = "1"; kind != api.Num {
			makes(t, pat("order", has("total", v)), "", f, "")
		}
	}
}

// P15.1 (O2): of a number that is there already nothing is told, and nothing changes, whatever the two facts make; what goes is the one that is there.
func TestThereAlready(t *testing.T) {
	p := pat("pair", asks("a", "x"), has("b", num("2")))
	matching := []api.Fact{pair(4, "1", "2"), pair(4, "7", "2")}
	others := []api.Fact{pair(4, "1", "3"), other(4, "1", "2"), fact(4, "flag"), fact(4, "nothere"), fact(4, "pair", num("1")), fact(4, "pair", num("1"), sym("a"))}
	for _, first := range append(matching, others...) {
		for _, next := range append(matching, others...) {
			b := of(t, p, "f")
			b.add(pair(3, "5", "2"))
			was := lines(b.n.All())
			told := b.add(first)
			now := lines(b.n.All())
			for range 2 {
				tells(t, b.add(first))
				tells(t, b.add(next))
				b.all(now...)
			}
			gone := b.del(4)
			if len(told) != len(gone) || len(told) == 1 && (line(told[0].T) != line(gone[0].T) || gone[0].Add || !told[0].Add) {
				t.Fatalf("%s came, and %s went", brief(told), brief(gone))
			}
			b.all(was...)
			if got := b.add(next); (len(got) == 1) != (next.Tmpl == "pair" && len(next.Vals) == 2 && next.Vals[1] == num("2")) {
				t.Fatalf("%s: got %s", brief(next), brief(got))
			}
		}
	}
}

// P15.1 (O2): the same, by the very words that are told.
func TestThereAlreadyTold(t *testing.T) {
	b := of(t, pat("pair", asks("a", "x"), has("b", num("2"))), "")
	tells(t, b.add(pair(4, "1", "2")), "+x=1 #4")
	tells(t, b.add(pair(4, "1", "2")))
	tells(t, b.add(pair(4, "7", "2")))
	tells(t, b.add(pair(4, "7", "3")))
	b.all("x=1 #4")
	tells(t, b.del(4), "-x=1 #4")
	tells(t, b.add(pair(4, "7", "3")))
	tells(t, b.add(pair(4, "7", "2")))
	b.all()
	tells(t, b.del(4))
	tells(t, b.add(pair(4, "7", "2")), "+x=7 #4")
	b.all("x=7 #4")
}

// P15.1 (O2): of a number that there is none of nothing is told, and nothing changes; the same of one that is gone.
func TestDel(t *testing.T) {
	b := of(t, pat("pair", asks("a", "x")), "f")
	tells(t, b.del(1))
	tells(t, b.add(pair(1, "5", "2")), "+f=#1 x=5 #1")
	tells(t, b.add(other(2, "5", "2")))
	tells(t, b.add(pair(3, "6", "2")), "+f=#3 x=6 #3")
	for _, n := range []int{0, -1, 4, 13, -3} {
		tells(t, b.del(n))
	}
	b.all("f=#1 x=5 #1", "f=#3 x=6 #3")
	tells(t, b.del(1), "-f=#1 x=5 #1")
	tells(t, b.del(1))
	b.all("f=#3 x=6 #3")
	tells(t, b.del(2))
	tells(t, b.del(2))
	b.all("f=#3 x=6 #3")
	tells(t, b.add(pair(1, "9", "1")), "+f=#1 x=9 #1")
	tells(t, b.add(pair(2, "8", "1")), "+f=#2 x=8 #2")
	b.all("f=#1 x=9 #1", "f=#2 x=8 #2", "f=#3 x=6 #3")
	tells(t, b.del(1), "-f=#1 x=9 #1")
	tells(t, b.add(other(1, "9", "1")))
	tells(t, b.del(3), "-f=#3 x=6 #3")
	tells(t, b.del(1))
	tells(t, b.del(2), "-f=#2 x=8 #2")
	tells(t, b.del(2))
	b.all()
}

// P15.1: any fact's number may be had, each one by itself, also 0, those below it, and those at both ends of 64 bits.
func TestNumbers(t *testing.T) {
	b := of(t, pat("pair", asks("a", "x")), "f")
	numbers := append(edges(), 1, 2, 10)
	slices.Sort(numbers)
	numbers = slices.Compact(numbers)
	var want []string
	for i, n := range numbers {
		one := fmt.Sprintf("f=#%d x=%d #%d", n, i, n)
		want = append(want, one)
		tells(t, b.del(n))
		tells(t, b.add(pair(n, fmt.Sprint(i), "2")), "+"+one)
		tells(t, b.add(pair(n, "77", "2")))
		b.all(want...)
	}
	for i, n := range numbers {
		tells(t, b.del(n), "-"+want[i])
		tells(t, b.del(n))
		b.all(want[i+1:]...)
	}
	for _, n := range numbers {
		makes(t, pat("pair", asks("a", "x")), "", pair(n, "5", "5"), fmt.Sprintf("x=5 #%d", n))
		makes(t, pat("pair"), "", other(n, "5", "5"), "")
	}
}

// P15.1 (O1): All tells hundreds of facts in order by their numbers, whatever the order in which they came, the same each time; each tuple stands on its fact's number alone.
func TestOrder(t *testing.T) {
	m := newMaker(1)
	for range 4 {
		b := of(t, pat("pair", asks("a", "x"), has("b", num("2"))), "f")
		var want []string
		for n := -40; n < 360; n++ {
			if n%5 != 0 {
				want = append(want, fmt.Sprintf("f=#%d x=%d #%d", n, 1000-n, n))
			}
		}
		for _, i := range m.Perm(400) {
			n, second := i-40, "2"
			if n%5 == 0 {
				second = "3"
			}
			b.n.Add(pair(n, fmt.Sprint(1000-n), second))
		}
		b.all(want...)
	}
}

// P15.1 (O1): numbers are in order as numbers, not as decimals; values have no say in it.
func TestOrderOfNumbers(t *testing.T) {
	b := of(t, pat("pair", asks("a", "x")), "")
	for _, f := range []api.Fact{pair(10, "1", "1"), pair(9, "3", "1"), pair(100, "0", "1"), pair(-1, "9", "1"), pair(-10, "7", "1"), pair(1, "8", "1")} {
		b.add(f)
	}
	b.all("x=7 #-10", "x=9 #-1", "x=8 #1", "x=3 #9", "x=1 #10", "x=0 #100")
}
