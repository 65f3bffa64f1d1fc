package bind_test

import (
	"math"
	"slices"
	"testing"

	"tribunal/api"
	"tribunal/bind"
	"tribunal/value"
)

// rightly fails, unless Right says so of a tuple, and another telling too.
func rightly(t *testing.T, one api.Tuple, want bool) {
	t.Helper()
	if got := bind.Right(one); got != want || isRight(one) != want {
		t.Fatalf("%s: got %v, want %v (another one tells %v)", brief(one), got, want, isRight(one))
	}
}

// P14.1 (N1): a tuple of nothing is right.
func TestRightOfNothing(t *testing.T) {
	rightly(t, api.Tuple{}, true)
	rightly(t, api.Tuple{Binds: []api.Bind{}, Ids: []int{}}, true)
	rightly(t, on(of(), 1), true)
	rightly(t, ones("x=1"), true)
	rightly(t, api.Tuple{Binds: []api.Bind{{}}}, false)
	rightly(t, api.Tuple{Ids: []int{0}}, false)
}

// P14.1 (N1): each name is one, alone and at each place of a row.
func TestRightNames(t *testing.T) {
	for _, name := range rightNames() {
		rightly(t, of(to(name, num("1"))), true)
	}
	for _, name := range append(noNames(), "", times("a", 25), "Ab", "aB", "1a") {
		rightly(t, of(to(name, num("1"))), false)
		rightly(t, on(of(to(name, num("1"))), 1), false)
		row := append(slices.Clone(rightNames()), name)
		slices.Sort(row)
		var l []api.Bind
		for _, each := range row {
			l = append(l, to(each, num("1")))
		}
		rightly(t, of(l...), false)
	}
}

// P14.1 (N1): names rise, by bytes.
func TestRightNamesRise(t *testing.T) {
	var all []api.Bind
	for _, name := range rightNames() {
		all = append(all, to(name, num("1")))
	}
	rightly(t, of(all...), true)
	for i := range all {
		for k := range all {
			rightly(t, of(all[i], all[k]), i < k)
			rightly(t, of(all[i], to(all[k].Name, num("2"))), i < k)
		}
	}
	for i := range len(all) - 1 {
		turned := slices.Clone(all)
		turned[i], turned[i+1] = turned[i+1], turned[i]
		rightly(t, of(turned...), false)
		rightly(t, of(slices.Insert(slices.Clone(all), i, all[i])...), false)
	}
	backwards := slices.Clone(all)
	slices.Reverse(backwards)
	rightly(t, of(backwards...), false)
	rightly(t, ones("x=1 x1=1 x10=1 x2=1"), true)
	rightly(t, ones("x=1 x2=1 x10=1"), false)
	rightly(t, ones("xx=1 x=1"), false)
}

// P14.1 (N1): each value is right, alone and at each place.
func TestRightValues(t *testing.T) {
	for _, v := range rightValues() {
		rightly(t, of(to("x", v)), true)
		rightly(t, of(to("a", v), to("b", v), to("c", v)), true)
	}
	for _, v := range wrongValues() {
		rightly(t, of(to("x", v)), false)
		for i := range 3 {
			row := ones("a=1 b=2 c=3")
			row.Binds[i].V = v
			rightly(t, row, false)
		}
	}
}

// P14.1 (N1): facts' numbers are above 0, at each place; they may stand in any order, and twice.
func TestRightIds(t *testing.T) {
	rightly(t, on(of(), rightIds()...), true)
	rightly(t, on(of(), 3, 1, 2), true)
	rightly(t, on(of(), 7, 7, 7), true)
	for _, n := range rightIds() {
		rightly(t, on(of(), n), true)
		rightly(t, on(ones("x=1"), n, n), true)
	}
	for _, n := range wrongIds() {
		rightly(t, on(of(), n), false)
		for i := range 4 {
			rightly(t, on(ones("x=1"), slices.Insert([]int{3, 1, 2}, i, n)...), false)
		}
	}
}

// texts fails, unless that is a tuple's text, and another telling's too.
func texts(t *testing.T, one api.Tuple, want string) {
	t.Helper()
	if got := bind.Text(one); got != want || textOf(one) != want {
		t.Fatalf("%s: got %q, want %q (another one tells %q)", brief(one), got, want, textOf(one))
	}
}

// P14.1 (N1): what stands in the text of a tuple, with a blank behind each part.
func TestText(t *testing.T) {
	texts(t, api.Tuple{}, "")
	texts(t, api.Tuple{Binds: []api.Bind{}, Ids: []int{}}, "")
	texts(t, on(ones("x=1"), 3), "x=1 #3 ")
	texts(t, ones("x=1"), "x=1 ")
	texts(t, on(of(), 3), "#3 ")
	texts(t, on(ones("x=1 y=-3/2"), 12, 3, 12), "x=1 y=-3/2 #12 #3 #12 ")
	texts(t, of(to("a", text("a b  c")), to("b", text("")), to("c", text(" "))), `a="a b  c" b="" c=" " `)
	texts(t, of(to("a", text("x=1 #3 "))), `a="x=1 #3 " `)
	texts(t, of(to("a", sym("red")), to("b", boolean("true")), to("c", boolean("false"))), "a='red b=true c=false ")
	texts(t, of(to("a", id("7")), to("b", id("0")), to("c", id("999999999"))), "a=#7 b=#0 c=#999999999 ")
	texts(t, of(to("a", set("")), to("b", set(`1, "a, b", 'a, #2`)), to("c", api.Value{})), `a={} b={1, "a, b", 'a, #2} c=none `)
	texts(t, of(to("a", text("none")), to("b", sym("none")), to("c", text("1"))), `a="none" b='none c="1" `)
}

// P14.1 (N1): values that are not right are written as nothing; names that are none, or do not rise, are written as they are.
func TestTextOfWrong(t *testing.T) {
	for _, v := range wrongValues() {
		texts(t, of(to("x", v)), "x= ")
		texts(t, on(of(to("x", v), to("y", num("1")), to("z", v)), 2), "x= y=1 z= #2 ")
	}
	for _, name := range noNames() {
		texts(t, on(of(to(name, num("1"))), 2), name+"=1 #2 ")
	}
	texts(t, ones("b=1 a=2 a=2 a=3"), "b=1 a=2 a=2 a=3 ")
}

// P14.1 (N1): facts' numbers are written in decimals, whatever they are.
func TestTextOfIds(t *testing.T) {
	texts(t, on(of(), 0, -1, 10, 999999999, 1000000000), "#0 #-1 #10 #999999999 #1000000000 ")
	texts(t, on(of(), math.MinInt64, math.MaxInt64), "#-9223372036854775808 #9223372036854775807 ")
	texts(t, on(ones("x=1"), -77), "x=1 #-77 ")
	for _, n := range append(rightIds(), wrongIds()...) {
		texts(t, on(of(), n), textOf(on(of(), n)))
	}
}

// chain is tuples in order, right ones and wrong ones, no two alike.
func chain() []api.Tuple {
	big := times("9", 300)
	rows := [][]api.Bind{
		nil,
		{to("", num("1"))},
		{to("A", num("1"))},
		{to("a", api.Value{Kind: -1, S: "z"})},
		{to("a", api.Value{})}, {to("a", api.Value{S: "wrong"})},
		{to("a", num("-1"))}, {to("a", num("1/2"))},
		{to("a", num("2"))}, {to("a", num("2")), to("b", num("1"))}, {to("a", num("2")), to("b", num("1")), to("c", num("1"))}, {to("a", num("2")), to("c", num("0"))},
		{to("a", num("10"))}, {to("a", num(big))},
		{to("a", text(""))}, {to("a", text("10"))}, {to("a", text("2"))}, {to("a", text("a"))},
		{to("a", sym("a"))}, {to("a", boolean("false"))}, {to("a", boolean("true"))},
		{to("a", id("2"))}, {to("a", id("10"))}, {to("a", set(""))}, {to("a", set("1"))},
		{to("a", api.Value{Kind: 7})}, {to("a", api.Value{Kind: math.MaxInt})},
		{to("a0", num("1"))}, {to("aa", num("-1"))}, {to("b", api.Value{})}, {to("b", num("1")), to("a", num("1"))}, {to("z", num("1"))}, {to("\xff", api.Value{})},
	}
	var all []api.Tuple
	for _, ids := range [][]int{{}, {math.MinInt}, {-5}, {0}, {1}, {1, 1}, {1, 1, 1}, {1, 2}, {1, 10}, {2}, {2, -1}, {2, 1}, {3}, {10}, {10, 1}, {999999999}, {math.MaxInt, math.MinInt}, {math.MaxInt, math.MaxInt}} {
		for _, row := range rows {
			all = append(all, api.Tuple{Binds: row, Ids: ids})
		}
	}
	return all
}

// P14.1 (N1), P14.2: each of two in the chain's order, and the other way round; a tuple is alike to one of the same in other memory.
func TestCmp(t *testing.T) {
	l := chain()
	for i, a := range l {
		for k, b := range l {
			want := 0
			if i != k {
				want = 1 - 2*min(1, max(0, k-i))
			}
			if got := bind.Cmp(a, copied(b)); got != want || order(a, b) != want {
				t.Fatalf("%s and %s: got %d, want %d (another one tells %d)", brief(a), brief(b), got, want, order(a, b))
			}
		}
	}
}

// P14.1 (N1): Ids come ahead of Binds, the first one that is unlike decides, and one that is longer is behind; then names ahead of values, one variable after the other.
func TestCmpByParts(t *testing.T) {
	for _, c := range []struct{ a, b api.Tuple }{
		{on(ones("z=9"), 1), on(ones("a=1"), 2)},
		{on(ones("z=9")), on(ones("a=1"), 1)},
		{on(ones("z=9"), 1, 9, 9), on(ones("a=1"), 2)},
		{on(ones("z=9"), 1, 2), on(ones("a=1"), 1, 2, 1)},
		{on(ones("z=9"), 2, 9), on(ones("z=9"), 10)},
		{on(ones("a=9"), 1), on(ones("b=1"), 1)},
		{on(ones("a=1 b=9"), 1), on(ones("a=2 b=1"), 1)},
		{on(ones("a=9 b=9"), 1), on(ones("a=9 c=1"), 1)},
		{on(ones("a=1 c=1"), 1), on(ones("a=2 b=1"), 1)},
		{on(ones("a=9"), 1), on(ones("a=9 b=1"), 1)},
		{on(ones("a=9 b=2"), 1), on(ones("a=10"), 1)},
		{on(ones("a=-1/2"), 1), on(ones("a=-1/3"), 1)},
		{on(of(to("a", num("9"))), 1), on(of(to("a", text("1"))), 1)},
		{on(of(to("a", id("9"))), 1), on(of(to("a", id("10"))), 1)},
		{on(of(to("a", text("10"))), 1), on(of(to("a", text("9"))), 1)},
		{ones("x10=1"), ones("x2=1")},
		{api.Tuple{}, on(of(), math.MinInt)},
		{api.Tuple{}, of(api.Bind{})},
	} {
		if bind.Cmp(c.a, c.b) != -1 || bind.Cmp(c.b, c.a) != 1 || bind.Cmp(c.a, c.a) != 0 || bind.Cmp(c.b, c.b) != 0 {
			t.Errorf("%s and %s: %d, %d", brief(c.a), brief(c.b), bind.Cmp(c.a, c.b), bind.Cmp(c.b, c.a))
		}
	}
	if bind.Cmp(api.Tuple{}, api.Tuple{Binds: []api.Bind{}, Ids: []int{}}) != 0 || bind.Cmp(api.Tuple{Binds: []api.Bind{}, Ids: []int{}}, api.Tuple{}) != 0 {
		t.Error("nothing is not alike to nothing")
	}
}

// P14.1 (N1): values of one name stand as value.Cmp has them, wrong ones too.
func TestCmpByValues(t *testing.T) {
	l := append(rightValues(), wrongValues()...)
	for _, v := range l {
		for _, w := range l {
			a, b := on(of(to("a", num("1")), to("x", v)), 3, 1), on(of(to("a", num("1")), to("x", w)), 3, 1)
			if got := bind.Cmp(a, b); got != value.Cmp(v, w) {
				t.Fatalf("%s and %s: got %d", brief(v), brief(w), got)
			}
		}
	}
}

// P14.1 (N1): Sort of none, of one, and of many in whatever order, some of them twice.
func TestSort(t *testing.T) {
	if got := bind.Sort(nil); len(got) != 0 {
		t.Errorf("got %s", brief(got))
	}
	if got := bind.Sort([]api.Tuple{}); len(got) != 0 {
		t.Errorf("got %s", brief(got))
	}
	m := newMaker(1)
	want := chain()
	for _, x := range want {
		if got := bind.Sort([]api.Tuple{x}); len(got) != 1 || !alike(got[0], x) {
			t.Fatalf("%s: got %s", brief(x), brief(got))
		}
	}
	twice := make([]api.Tuple, 0, 2*len(want))
	for _, x := range want {
		twice = append(twice, x, x)
	}
	for _, all := range [][]api.Tuple{want, twice, want[5:20], want[40:42]} {
		for range 20 {
			l := slices.Clone(all)
			m.Shuffle(len(l), func(i, k int) { l[i], l[k] = l[k], l[i] })
			if got := bind.Sort(l); !slices.EqualFunc(got, all, alike) {
				t.Fatalf("got %s, want %s", brief(got), brief(all))
			}
		}
		l := slices.Clone(all)
		slices.Reverse(l)
		if got := bind.Sort(l); !slices.EqualFunc(got, all, alike) {
			t.Fatalf("got %s, want %s", brief(got), brief(all))
		}
	}
}

// shape tells which lists of a tuple are nil: two that are alike are written otherwise by that alone.
func shape(t api.Tuple) int {
	n := 0
	if t.Binds == nil {
		n++
	}
	if t.Ids == nil {
		n += 2
	}
	return n
}

// P14.1 (N1): those that are alike are as they stood.
func TestSortStays(t *testing.T) {
	m := newMaker(2)
	for range 50 {
		var l []api.Tuple
		for range 60 {
			switch m.Intn(8) {
			case 0:
				l = append(l, api.Tuple{})
			case 1:
				l = append(l, api.Tuple{Binds: []api.Bind{}})
			case 2:
				l = append(l, api.Tuple{Ids: []int{}})
			case 3:
				l = append(l, api.Tuple{Binds: []api.Bind{}, Ids: []int{}})
			case 4:
				l = append(l, on(ones("x=1")), api.Tuple{Binds: ones("x=1").Binds, Ids: []int{}})
			case 5:
				l = append(l, on(of(), 1), api.Tuple{Binds: []api.Bind{}, Ids: []int{1}})
			default:
				l = append(l, m.tuple())
			}
		}
		got, want := bind.Sort(l), sorted(l)
		for i, x := range want {
			if !alike(got[i], x) || shape(got[i]) != shape(x) {
				t.Fatalf("%d of %s: got %s, want %s", i, brief(l), brief(got[i]), brief(x))
			}
		}
	}
}
