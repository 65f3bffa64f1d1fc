package fold_test

import (
	"math"
	"math/big"
	"slices"
	"testing"

	"tribunal/api"
	"tribunal/fold"
	"tribunal/value"
)

// P6.1 (F1): each kind has its number and its name, there and back.
func TestNames(t *testing.T) {
	for i, name := range names() {
		if got := fold.Kind(name); got != i+1 {
			t.Errorf("Kind of %s: got %d, want %d", name, got, i+1)
		}
		if got := fold.Name(i + 1); got != name {
			t.Errorf("Name of %d: got %q, want %q", i+1, got, name)
		}
	}
	for kind, name := range map[int]string{api.FoldCount: "count", api.FoldSum: "sum", api.FoldMin: "min", api.FoldMax: "max", api.FoldAvg: "avg", api.FoldSet: "set"} {
		if fold.Kind(name) != kind || fold.Name(kind) != name {
			t.Errorf("%s: Kind %d, Name of %d %q", name, fold.Kind(name), kind, fold.Name(kind))
		}
	}
}

// noKinds is numbers of which there is no kind: below, above, and such as are theirs but for what an int has more.
func noKinds() []int {
	return []int{math.MinInt, -1 << 32, -7, -6, -5, -1, 0, 7, 8, 12, 100, 256, 257, 1 << 16, 1<<32 + 1, 1<<32 + 6, math.MaxInt}
}

// P6.1 (F1): there is no kind of other names, and no name of other numbers.
func TestNoNames(t *testing.T) {
	for _, name := range []string{"", " ", "c", "coun", "counts", "count ", " count", "Count", "COUNT", "sum\n", "SUM", "su", "summ", "minmax", "min max", "minimum", "max\x00", "average", "Avg", "list", "none", "1", "6", "0", "\xff", times("a", 100000), times("sum", 1000)} {
		if got := fold.Kind(name); got != 0 {
			t.Errorf("Kind of %s: got %d", brief(text(name)), got)
		}
	}
	for _, kind := range noKinds() {
		if got := fold.Name(kind); got != "" {
			t.Errorf("Name of %d: got %q", kind, got)
		}
	}
}

// P6.1 (F1): New of each kind is one of no values; of a number that is none it is nil.
func TestNew(t *testing.T) {
	for _, kind := range noKinds() {
		if got := fold.New(kind); got != nil {
			t.Errorf("New of %d: not nil", kind)
		}
	}
	for kind := -20; kind <= 20; kind++ {
		got := fold.New(kind)
		if (got != nil) != (kind >= 1 && kind <= 6) {
			t.Errorf("New of %d: nil is %v", kind, got == nil)
		}
		if got != nil && got.Many() != 0 {
			t.Errorf("New of %d: %d values", kind, got.Many())
		}
	}
}

// P6.1 (F2): what comes of no values.
func TestOfNone(t *testing.T) {
	for i, want := range []api.Value{num("0"), num("0"), {}, {}, {}, set("")} {
		checkResult(t, i+1, nil, want)
	}
}

// P6.1 (F2): what comes of a few Nums, by each kind; of the first ones it is the document's example.
func TestExamples(t *testing.T) {
	for _, c := range []struct {
		l    []api.Value
		want []api.Value
	}{
		{nums("1", "2"), append(nums("2", "3", "1", "2", "3/2"), set("1, 2"))},
		{nums("7"), append(nums("1", "7", "7", "7", "7"), set("7"))},
		{nums("2", "1/2", "2"), append(nums("3", "9/2", "1/2", "2", "3/2"), set("1/2, 2"))},
		{nums("10", "9", "-1", "-2"), append(nums("4", "16", "-2", "10", "4"), set("-2, -1, 9, 10"))},
		{nums("1/2", "-1/2"), append(nums("2", "0", "-1/2", "1/2", "0"), set("-1/2, 1/2"))},
	} {
		for i, want := range c.want {
			checkResult(t, i+1, c.l, want)
		}
	}
}

// P6.1: one value, put in and taken out, of each sort.
func TestOne(t *testing.T) {
	eachKind(t, func(t *testing.T, kind int) {
		for _, v := range ordered() {
			b := newBoth(kind)
			b.add(t, v)
			b.check(t)
			for _, other := range append(ordered(), wrong()...) {
				if other != v {
					b.del(t, other)
				}
			}
			b.check(t)
			b.del(t, v)
			b.check(t)
			b.del(t, v)
			b.check(t)
		}
	})
}

// P6.1: one value many times is in as often, until it is taken out as often.
func TestManyTimes(t *testing.T) {
	eachKind(t, func(t *testing.T, kind int) {
		for _, v := range []api.Value{{}, num("3/2"), num("0"), num("-7"), num("1/" + nines(298)), num(nines(300)), text("a, b"), sym("m"), boolean("true"), id("7"), set("1, 2")} {
			b := newBoth(kind)
			for range 60 {
				b.add(t, v)
				b.check(t)
			}
			for range 61 {
				b.del(t, v)
				b.check(t)
			}
		}
	})
}

// P6.1: values of each sort, one by one, in whatever order they come and go.
func TestAllSorts(t *testing.T) {
	r := newValues(1)
	back := ordered()
	slices.Reverse(back)
	eachKind(t, func(t *testing.T, kind int) {
		for _, l := range [][]api.Value{ordered(), back, r.mixed(back), r.mixed(back)} {
			b := newBoth(kind)
			for _, v := range l {
				b.add(t, v)
				b.check(t)
			}
			for _, v := range r.mixed(b.model.l) {
				b.del(t, v)
				b.check(t)
			}
		}
	})
}

// P6.1 (F1): Add of what is not right is false, and changes nothing; so is Del of it.
func TestWrong(t *testing.T) {
	r := newValues(2)
	eachKind(t, func(t *testing.T, kind int) {
		for _, l := range [][]api.Value{nil, nums("1"), nums("3/2", "3/2", "-1"), ordered(), r.list(kind, 60)} {
			b := newBoth(kind, l...)
			for _, v := range wrong() {
				if b.fold.Add(v) {
					t.Fatalf("%s is put in", brief(v))
				}
				if b.fold.Del(v) {
					t.Fatalf("%s is taken out", brief(v))
				}
				b.check(t)
			}
		}
	})
}

// P6.1 (F1): Add to a sum, or an average, of a right value that is no Num is false, and changes nothing; all others take it.
func TestNoNums(t *testing.T) {
	eachKind(t, func(t *testing.T, kind int) {
		for _, l := range [][]api.Value{nil, nums("5"), nums("1/2", "1/2", "-3")} {
			for _, v := range others() {
				b := newBoth(kind, l...)
				if got := b.fold.Add(v); got == isOfNums(kind) {
					t.Fatalf("Add of %s: got %v", brief(v), got)
				}
				if !isOfNums(kind) {
					b.model.l = append(b.model.l, v)
				}
				b.check(t)
				b.del(t, v)
				b.check(t)
			}
		}
	})
}

// P6.1 (F1): Del of what is not in, or is in no more, is false, and changes nothing.
func TestDelOfNone(t *testing.T) {
	eachKind(t, func(t *testing.T, kind int) {
		b := newBoth(kind, num("1"), num("3"), num("3"), sym("a"), id("2"))
		for _, v := range []api.Value{{}, num("0"), num("2"), num("4"), num("3/2"), text("1"), text("a"), sym("b"), id("1"), id("3"), set("1"), set(""), boolean("true")} {
			b.del(t, v)
			b.check(t)
		}
		for _, v := range []api.Value{num("3"), num("3"), num("3"), num("1"), num("1"), sym("a"), sym("a"), id("2"), id("2"), num("3")} {
			b.del(t, v)
			b.check(t)
		}
		if b.fold.Many() != 0 {
			t.Fatalf("%d are left", b.fold.Many())
		}
		b.add(t, num("3"))
		b.check(t)
	})
}

// P6.1 (F2): the first and the last one of unlike sorts go by sorts first; None, if it is in, is the first one.
func TestEnds(t *testing.T) {
	for _, c := range []struct{ l, ends []api.Value }{
		{[]api.Value{{}}, []api.Value{{}, {}}},
		{[]api.Value{{}, num("1")}, []api.Value{{}, num("1")}},
		{[]api.Value{sym("a"), {}, {}}, []api.Value{{}, sym("a")}},
		{[]api.Value{text("0"), num("1")}, []api.Value{num("1"), text("0")}},
		{[]api.Value{sym("a"), text("z"), num(nines(300))}, []api.Value{num(nines(300)), sym("a")}},
		{[]api.Value{boolean("false"), id("1"), sym("z")}, []api.Value{sym("z"), id("1")}},
		{[]api.Value{set(""), id("999999999")}, []api.Value{id("999999999"), set("")}},
		{[]api.Value{set("1"), set("none"), set("")}, []api.Value{set(""), set("none")}},
		{[]api.Value{num("9"), num("10"), num("-10"), num("-9")}, []api.Value{num("-10"), num("10")}},
		{[]api.Value{id("9"), id("10"), id("11")}, []api.Value{id("9"), id("11")}},
		{[]api.Value{text("9"), text("10")}, []api.Value{text("10"), text("9")}},
		{[]api.Value{boolean("true"), boolean("false")}, []api.Value{boolean("false"), boolean("true")}},
		{nums("1/2", "1/3", "2/3"), nums("1/3", "2/3")},
		{nums("-1/2", "-1/3", "-2/3"), nums("-2/3", "-1/3")},
	} {
		checkResult(t, api.FoldMin, c.l, c.ends[0])
		checkResult(t, api.FoldMax, c.l, c.ends[1])
	}
	all := ordered()
	for i := range all {
		checkResult(t, api.FoldMin, all[i:], all[i])
		checkResult(t, api.FoldMax, all[:i+1], all[i])
	}
}

// P6.1 (F2): averages and sums that come out 0, that come out whole, and that don't.
func TestAverages(t *testing.T) {
	for _, c := range []struct {
		l        []api.Value
		avg, sum string
	}{
		{nums("0"), "0", "0"},
		{nums("0", "0", "0"), "0", "0"},
		{nums("5", "-5"), "0", "0"},
		{nums("1/2", "1/3", "1/6", "-1"), "0", "0"},
		{nums(nines(299), "-"+nines(299), "1/"+nines(297), "-1/"+nines(297)), "0", "0"},
		{nums("1", "2", "3"), "2", "6"},
		{nums("1/2", "3/2"), "1", "2"},
		{nums("-7", "-7", "-7"), "-7", "-21"},
		{nums("1", "2"), "3/2", "3"},
		{nums("-1", "-2"), "-3/2", "-3"},
		{nums("1", "0", "0"), "1/3", "1"},
		{nums("1/2", "1/3"), "5/12", "5/6"},
		{nums("2", "2", "2", "2", "2", "1"), "11/6", "11"},
		{nums("2", "4", "1", "-1"), "3/2", "6"},
		{nums("18446744073709551616", "18446744073709551615"), "36893488147419103231/2", "36893488147419103231"},
	} {
		checkResult(t, api.FoldAvg, c.l, num(c.avg))
		checkResult(t, api.FoldSum, c.l, num(c.sum))
	}
}

// P6.1 (F2): a set has each one once, in order, and none that is a set.
func TestSets(t *testing.T) {
	for _, c := range []struct {
		l    []api.Value
		want string
	}{
		{[]api.Value{{}}, "none"},
		{[]api.Value{{}, {}, num("2"), num("10"), num("2")}, "none, 2, 10"},
		{[]api.Value{id("2"), boolean("true"), sym("a"), text("a"), num("1"), {}}, `none, 1, "a", 'a, true, #2`},
		{[]api.Value{set("1"), set(""), set("1, 2")}, ""},
		{[]api.Value{set("1"), num("2"), set("3"), sym("a")}, "2, 'a"},
		{[]api.Value{text("a, b"), text(""), text("'a")}, `"", "'a", "a, b"`},
	} {
		checkResult(t, api.FoldSet, c.l, set(c.want))
	}
}

// P6.1 (F2): a sum, and an average, whose text has 300 bytes is told; of one with more there is none, until what made it too long is taken out again.
func TestLongNumbers(t *testing.T) {
	for _, c := range []struct {
		kind int
		l    []api.Value
		want string
		more api.Value
	}{
		{api.FoldSum, nums(nines(300)), nines(300), num("1")},
		{api.FoldSum, nums(ten(299), "8"+nines(299)), nines(300), num("1")},
		{api.FoldSum, nums("-" + nines(299)), "-" + nines(299), num("-1")},
		{api.FoldSum, nums(nines(149) + "/" + ten(149)), nines(149) + "/" + ten(149), num("1")},
		{api.FoldSum, nums("1/" + nines(298)), "1/" + nines(298), num("1/" + ten(297))},
		{api.FoldAvg, often(num(nines(300)), 9), nines(300), num("0")},
		{api.FoldAvg, nums(ten(299), ten(299)), ten(299), num("1/2")},
		{api.FoldAvg, often(num("-"+nines(299)), 3), "-" + nines(299), num("0")},
		{api.FoldAvg, nums("2/" + nines(298)), "2/" + nines(298), num("3/5")},
		{api.FoldAvg, nums("1/5" + times("0", 297)), "1/5" + times("0", 297), num("0")},
	} {
		b := newBoth(c.kind, c.l...)
		for range 2 {
			b.check(t)
			if got := b.fold.Result(); got != num(c.want) {
				t.Fatalf("%s: got %s, want %s", names()[c.kind-1], brief(got), brief(num(c.want)))
			}
			b.add(t, c.more)
			b.check(t)
			if got := b.fold.Result(); got != (api.Value{}) {
				t.Fatalf("%s with %s: got %s", names()[c.kind-1], brief(c.more), brief(got))
			}
			b.del(t, c.more)
		}
	}
}

// P6.1 (F2): of a sum that is too long for a Num the average may have room.
func TestAverageOfLongSum(t *testing.T) {
	for _, n := range []int{2, 9, 10, 100, 1001} {
		l := often(num("9"+times("0", 299)), n)
		checkResult(t, api.FoldSum, l, api.Value{})
		checkResult(t, api.FoldAvg, l, num("9"+times("0", 299)))
	}
}

// P6.1 (F2): a sum whose text has 900 bytes, or more, or a few less, is no Num, nor the average of it; of one that is too long, what made it so taken out again, there is a sum again.
func TestTooLongSums(t *testing.T) {
	for n := mostSum - 2; n <= mostSum+2; n++ {
		for _, kind := range []int{api.FoldSum, api.FoldAvg} {
			b := newBoth(kind, nums("1/2", "1/3")...)
			before := b.fold.Result()
			for _, v := range parts(t, n) {
				b.add(t, v)
				b.check(t)
			}
			if got := b.fold.Result(); got != (api.Value{}) {
				t.Fatalf("%d bytes: got %s", n, brief(got))
			}
			for _, v := range parts(t, n) {
				b.del(t, v)
				b.check(t)
			}
			if got := b.fold.Result(); got != before {
				t.Fatalf("%d bytes, and then without: got %s, want %s", n, brief(got), brief(before))
			}
		}
	}
}

// parts is Nums whose sum, with 1/2 and 1/3, has a text of n bytes: a whole one, and two with denominators that have little in common.
func parts(t *testing.T, n int) []api.Value {
	t.Helper()
	for long := 280; long < 300; long++ {
		for down := range 8 {
			l := nums(times("2", long), "1/"+ten(148), "1/"+nines(148+down))
			all, _ := model{l: append(nums("1/2", "1/3"), l...)}.total()
			if len(all.RatString()) == n {
				return l
			}
		}
	}
	t.Fatalf("no sum of %d bytes", n)
	return nil
}

// P6.1 (F2): sums on the way that are far too long, more than rat has room for too, keep nothing from what they make together.
func TestLongOnTheWay(t *testing.T) {
	r := newValues(3)
	var l []api.Value
	for i := range 24 {
		n := 1000003 + 2*i
		down := new(big.Int).Exp(big.NewInt(int64(n)), big.NewInt(49), nil).String()
		l = append(l, num("1/"+down), num("-1/"+down))
	}
	for _, kind := range []int{api.FoldSum, api.FoldAvg} {
		b := newBoth(kind, num("3/7"))
		nones := 0
		for _, v := range r.mixed(l) {
			b.add(t, v)
			b.check(t)
			if b.fold.Result() == (api.Value{}) {
				nones++
			}
		}
		want := "3/7"
		if kind == api.FoldAvg {
			want = "3/343"
		}
		if got := b.fold.Result(); got != num(want) || nones == 0 {
			t.Fatalf("got %s, behind %d that are too long", brief(got), nones)
		}
	}
}

// P6.1 (F2): a set of 4000 bytes is told; of a longer one there is none, until what made it too long is taken out again.
func TestLongSets(t *testing.T) {
	var l []api.Value
	for i := range 650 {
		l = append(l, whole(1000+i))
	}
	for n := api.MaxSet - 2; n <= api.MaxSet+2; n++ {
		last := num(times("7", n-6*len(l)))
		b := newBoth(api.FoldSet, append(slices.Clone(l), last, l[0], set("1, 2"))...)
		b.check(t)
		got := b.fold.Result()
		if n > api.MaxSet && got != (api.Value{}) || n <= api.MaxSet && (got.Kind != api.Set || len(got.S) != n || !value.Right(got)) {
			t.Fatalf("%d bytes: got %s, of %d", n, brief(got), len(got.S))
		}
		for range 2 {
			b.add(t, text(times("a", 100)))
			b.check(t)
			if got := b.fold.Result(); got != (api.Value{}) {
				t.Fatalf("%d bytes, and more: got %s", n, brief(got))
			}
			b.del(t, text(times("a", 100)))
			b.check(t)
		}
		b.del(t, last)
		b.check(t)
		if got := b.fold.Result(); len(got.S) != 6*len(l)-2 {
			t.Fatalf("without the last one: got %s", brief(got))
		}
	}
}

// P6.1: very many, of all of which something comes.
func TestVeryMany(t *testing.T) {
	const n = 20000
	for i, want := range []api.Value{num("20000"), num("199990000"), num("0"), num("19999"), num("19999/2"), {}} {
		f := fold.New(i + 1)
		for k := range n {
			f.Add(whole(k * 7919 % n))
		}
		if got := f.Result(); got != want || f.Many() != n {
			t.Errorf("%s: got %s, of %d", names()[i], brief(got), f.Many())
		}
	}
}
