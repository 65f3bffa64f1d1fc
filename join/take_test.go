package join_test

import (
	"fmt"
	"math"
	"slices"
	"testing"

	"tribunal/api"
	"tribunal/bind"
	"tribunal/join"
)

// ladder is right tuples, in order, no two alike, each near others: by their facts, their names, and their values' kinds.
func ladder() []api.Tuple {
	l := tuples("", "x=none", "x=0", "x=1", "x=1 x1=1", "x=1 y=1", "x=1 y=2", "x=9", "x=10")
	for _, s := range []string{"", "1", "1 #1", "1 y=1"} {
		l = append(l, bound("x", text(s)))
	}
	l = append(l, tuples("x='a", "x='true", "x=false", "x=true", "x=#1", "x=#9", "x=#10", "x={}", "x={1}")...)
	l = append(l, tuples("x1=1", "y=1")...)
	return append(l, tuples("#1", "x=1 #1", "y=1 #1", "#1 #1", "x=1 #1 #1", "#1 #1 #1", "#1 #1 #2", "#1 #2", "x=1 #1 #2", "#1 #2 #3", "#1 #3 #2", "#1 #12", "#2", "#2 #1", "x=1 #2 #1", "#2 #2", "#11", "#12", "#12 #3", "#123", "#999999999")...)
}

// P16.1 (P1): a new memory is of none; what does not come does not go.
func TestNewMemory(t *testing.T) {
	o := memory(t)
	o.all()
	for _, one := range ladder() {
		o.takes(drop(one), false)
		o.all()
	}
}

// P16.1 (P1): Take of an Add puts in what is not there, and of no Add takes out what is; else it tells false, and changes nothing.
func TestTake(t *testing.T) {
	for _, one := range ladder() {
		o := memory(t)
		for range 3 {
			o.takes(drop(one), false)
			o.takes(put(one), true)
			o.all(line(one))
			o.takes(put(one), false)
			o.takes(put(ownTuple(one)), false)
			o.all(line(one))
			o.takes(drop(ownTuple(one)), true)
			o.all()
			o.takes(drop(one), false)
			o.all()
		}
	}
}

// P16.1 (P1): a tuple may have no variables, no facts, or neither; a list of none may be nil or not.
func TestTakeOfEmpty(t *testing.T) {
	o := memory(t)
	o.takes(put(api.Tuple{}), true)
	o.takes(put(api.Tuple{Binds: []api.Bind{}, Ids: []int{}}), false)
	o.all("")
	o.takes(put(tuple("#4")), true)
	o.takes(put(api.Tuple{Binds: []api.Bind{}, Ids: []int{4}}), false)
	o.takes(put(tuple("x=1")), true)
	o.takes(put(api.Tuple{Binds: tuple("x=1").Binds, Ids: []int{}}), false)
	o.all("", "x=1", "#4")
	o.takes(drop(api.Tuple{Ids: []int{}}), true)
	o.takes(drop(api.Tuple{Binds: []api.Bind{}}), false)
	o.takes(drop(api.Tuple{Binds: []api.Bind{}, Ids: []int{4}}), true)
	o.all("x=1")
	o.takes(drop(tuple("#4")), false)
	o.takes(drop(tuple("x=1")), true)
	o.all()
}

// P16.1 (P1): of any two that are not the same neither is taken for the other one.
func TestTakeOfTwo(t *testing.T) {
	for i, a := range ladder() {
		for k, b := range ladder() {
			if i == k {
				continue
			}
			o := memory(t)
			o.takes(put(a), true)
			o.takes(drop(b), false)
			o.all(line(a))
			o.takes(put(b), true)
			l := []string{line(a), line(b)}
			if i > k {
				l[0], l[1] = l[1], l[0]
			}
			o.all(l...)
			o.takes(drop(a), true)
			o.takes(drop(a), false)
			o.all(line(b))
		}
	}
}

// P16.1 (P1): one value, alone or of three, that is another, or of another kind with the same bytes, makes another tuple.
func TestTakeOfValues(t *testing.T) {
	kinds := []api.Value{num("1"), text("1"), value(api.Id, "1"), value(api.Set, "1"), text("a"), sym("a"), text("true"), sym("true"), value(api.Bool, "true"), value(api.Set, "true"), text(""), value(api.Set, ""), {}, text("none"), sym("none"), value(api.Set, "none")}
	with := func(i int, v api.Value) api.Tuple {
		one := tuple("a=1 b='a c=true #3")
		one.Binds[i].V = v
		return one
	}
	for i := range 3 {
		o, alone := memory(t), memory(t)
		for _, v := range append(kinds, near()...) {
			first := !slices.ContainsFunc(alone.w.l, func(x api.Tuple) bool { return x.Binds[0].V == v })
			alone.takes(put(bound("x", v)), first)
			o.takes(put(with(i, v)), first)
		}
		if len(o.m.All()) < 40 {
			t.Errorf("just %d", len(o.m.All()))
		}
		for _, v := range kinds {
			o.takes(drop(with(i, v)), true)
			o.takes(drop(with(i, v)), false)
		}
	}
}

// P16.1 (P1): the facts' order, how often one stands there, and a list that is another one's beginning make other tuples; so do numbers whose decimals are the beginning of others.
func TestTakeOfFacts(t *testing.T) {
	rows := [][]int{nil, {1}, {1, 1}, {1, 1, 1}, {1, 2}, {2, 1}, {1, 2, 3}, {1, 3, 2}, {12}, {12, 3}, {1, 23}, {123}, {21}, {999999999}, {math.MaxInt32}, {math.MaxInt32 + 1}, {math.MaxInt}, {1<<32 + 1}, {1<<53 + 1}, {1 << 53}}
	for _, v := range []api.Value{num("1"), text("1 #1"), text("#1"), value(api.Id, "1"), value(api.Set, "#1")} {
		o := memory(t)
		for _, ids := range rows {
			o.takes(put(bound("x", v, ids...)), true)
			o.takes(put(bound("x", v, ids...)), false)
		}
		for _, ids := range rows {
			o.takes(drop(bound("x", v, ids...)), true)
			o.takes(drop(bound("x", v, ids...)), false)
		}
		o.all()
	}
}

// P16.1 (P1): values whose text has what stands between a tuple's parts are no such parts.
func TestTakeOfParts(t *testing.T) {
	l := []api.Tuple{
		bound("x", text("1"), 2), bound("x", text("1 #2")), bound("x", text("1 #2 ")), bound("x", text("1 "), 2), bound("x", text("1#2")), bound("x", text("1  #2")),
		bound("x", text("1 y=2")), tuple("x=1 y=2"), tuple(`x="1" y="2"`), tuple(`x="1" y=2`), bound("x", text("1 y=2 ")), bound("x", text("1 y=")), bound("x", text("=")), bound("x", text("==")), bound("x", text("x=")),
		tuple("x=#1"), tuple("x=#1 #1"), tuple("#1"), bound("x", text("#1")), bound("x", text("#1"), 1), bound("x", text(""), 1), bound("x", text(" ")), bound("x", text("  ")), bound("x", text("#")), bound("x", text("# ")), bound("x", text("#12")), bound("x", text("#1 #2")), bound("x", text("#1"), 2), bound("x", text("1")), bound("x", text("{1")), bound("x", text("1}")), bound("x", text("{1}")), bound("x", value(api.Set, "1")), bound("x", text("'1")),
		bound("x", value(api.Set, `"1 #2"`)), bound("x", value(api.Set, `"1", "2"`)), bound("x", value(api.Set, `"1, 2"`)), bound("x", value(api.Set, `1, 2`)), bound("x", value(api.Set, `"x=1 "`)), bound("x", value(api.Set, `#1`)), bound("x", value(api.Set, `#1, #2`)), bound("x", value(api.Set, `#12`)), bound("x", value(api.Set, `#1`), 2),
	}
	for _, i := range newMaker(1).Perm(len(l)) {
		o := memory(t)
		o.takes(put(l[i]), true)
		for k, other := range l {
			o.takes(drop(other), i == k)
		}
		o.all()
	}
	o := memory(t)
	for _, one := range l {
		o.takes(put(one), true)
	}
	for _, one := range l {
		o.takes(drop(one), true)
	}
	o.all()
}

// P16.1 (P1): All is sorted as bind.Sort says, each once, whatever the order in which they came, and the same when asked again.
func TestAllIsSorted(t *testing.T) {
	m, want := newMaker(2), lines(ladder())
	for range 40 {
		o := memory(t)
		l := ladder()
		m.Shuffle(len(l), func(i, k int) { l[i], l[k] = l[k], l[i] })
		for _, one := range l {
			o.takes(put(one), true)
			o.takes(put(pick(m, o.w.l...)), false)
		}
		o.all(want...)
		if got := lines(bind.Sort(o.m.All())); !slices.Equal(got, want) {
			t.Fatalf("got %s, want %s", brief(got), brief(want))
		}
		for i, one := range l {
			o.takes(drop(one), true)
			if n := len(o.m.All()); n != len(l)-i-1 {
				t.Fatalf("got %d", n)
			}
		}
		o.all()
	}
}

// P16.1 (P1): a memory knows nothing of another one.
func TestMemoriesAlone(t *testing.T) {
	a, b := memory(t), memory(t)
	a.takes(put(tuple("x=1 #1")), true)
	b.all()
	b.takes(drop(tuple("x=1 #1")), false)
	b.takes(put(tuple("x=1 #1")), true)
	a.takes(drop(tuple("x=1 #1")), true)
	b.all("x=1 #1")
	m := newMaker(3)
	for range 2000 {
		o := pick(m, a, b)
		o.take(m.delta(o.w.l))
		a.check()
		b.check()
	}
}

// P16.1 (P1): any calls, held against another telling; enough of each sort.
func TestAnyTakes(t *testing.T) {
	m, count := newMaker(4), map[string]int{}
	for range 100 {
		o := memory(t)
		for range 200 {
			d := m.delta(o.w.l)
			count[fmt.Sprint(d.Add, o.take(d))]++
		}
	}
	for _, sort := range []string{"true true", "true false", "false true", "false false"} {
		if count[sort] < 1000 {
			t.Errorf("%s: just %d times", sort, count[sort])
		}
	}
}

// P1: what the tests take for right is so.
func TestRight(t *testing.T) {
	all := ladder()
	for _, v := range near() {
		all = append(all, bound("x", v))
	}
	m := newMaker(5)
	for range 2000 {
		all = append(all, m.tuple(), m.keyed("x", 1))
	}
	for _, one := range all {
		if !bind.Right(one) {
			t.Fatalf("%s is not right", line(one))
		}
	}
}

// wrong is tuples that are not right: by their names, their order, their values, or their facts.
func wrong() []api.Tuple {
	long := string(make([]byte, 5000))
	l := []api.Tuple{bound("", num("1")), bound("X", num("1")), bound("x y", num("1")), bound(long, num("1")), bound("\xff", num("1"), 1), bound("x", num("2/2")), bound("x", num("")), bound("x", text("\"")), bound("x", sym("")), bound("x", value(9, "1")), bound("x", value(-1, "")), bound("x", value(api.None, "1")), bound("x", value(api.Set, "2, 1")), bound("x", text(long)), bound("x", num("1x")), bound("x", num("01")), bound("x", value(math.MinInt, long))}
	l = append(l, tuple("y=1 x=1"), tuple("x=1 x=1"), tuple("x=1 x=2"), tuple("x=2 x=1"), tuple("y=2 x=1 y=1 x=2 #1"))
	for _, ids := range [][]int{{0}, {-1}, {1, -1}, {math.MinInt}, {math.MinInt, math.MaxInt}, make([]int, 3000)} {
		l = append(l, api.Tuple{Ids: ids}, bound("x", num("1"), ids...))
	}
	return l
}

// P1: calls with tuples that are not right end, and do not panic; right ones beside them are told as ever.
func TestWrongTakes(t *testing.T) {
	m := join.NewMemory()
	for range 3 {
		for _, one := range wrong() {
			m.Take(put(one))
			m.Take(put(one))
			m.All()
		}
		for _, one := range ladder() {
			if !m.Take(put(one)) || m.Take(put(one)) {
				t.Fatalf("%s", line(one))
			}
		}
		for _, one := range wrong() {
			m.Take(drop(one))
			m.Take(drop(one))
			m.All()
		}
		if l := m.All(); len(l) != len(ladder()) {
			t.Fatalf("got %s", brief(lines(l)))
		}
		for _, one := range ladder() {
			if !m.Take(drop(one)) || m.Take(drop(one)) {
				t.Fatalf("%s", line(one))
			}
		}
		if l := m.All(); len(l) != 0 {
			t.Fatalf("got %s", brief(lines(l)))
		}
	}
}
