package tree_test

import (
	"math/big"
	"slices"
	"testing"

	"tribunal/api"
	"tribunal/tree"
)

// P5.1 (E1, E2, E3): a new tree has none.
func TestNew(t *testing.T) {
	b := newBoth()
	b.check(t)
	for _, v := range append(ordered(), wrong()...) {
		checkValue(t, b.tree, nil, v)
	}
	if s, err := b.tree.Sum(); s != "0" || err != api.OK {
		t.Errorf("Sum: got %q, %d", s, err)
	}
	if b.tree.Deep() != 0 {
		t.Errorf("Deep: got %d", b.tree.Deep())
	}
}

// P5.1: the chapter's example.
func TestExample(t *testing.T) {
	own := tree.New()
	for _, v := range []api.Value{num("2"), num("1"), num("2")} {
		if !own.Add(v) {
			t.Fatalf("%s is not put in", brief(v))
		}
	}
	for k, want := range []string{"1", "2", "2"} {
		if v, is := own.At(k); v != num(want) || !is {
			t.Errorf("At %d: got %s, %v", k, brief(v), is)
		}
	}
	if v, is := own.At(3); v != (api.Value{}) || is {
		t.Errorf("At 3: got %s, %v", brief(v), is)
	}
	if own.Count(num("2")) != 2 || own.Count(num("1")) != 1 || own.Count(num("3")) != 0 || own.Many() != 3 || own.Kinds() != 2 {
		t.Errorf("got %d, %d, %d, %d, %d", own.Count(num("2")), own.Count(num("1")), own.Count(num("3")), own.Many(), own.Kinds())
	}
	if own.Rank(num("1")) != 0 || own.Rank(num("2")) != 1 || own.Rank(num("3/2")) != 1 || own.Rank(num("3")) != 3 {
		t.Errorf("Rank: got %d, %d, %d, %d", own.Rank(num("1")), own.Rank(num("2")), own.Rank(num("3/2")), own.Rank(num("3")))
	}
	if s, err := own.Sum(); s != "5" || err != api.OK {
		t.Errorf("Sum: got %s, %d", s, err)
	}
	if l := own.List(); !slices.Equal(l, []api.Value{num("1"), num("2")}) {
		t.Errorf("List: got %v", l)
	}
	if own.Deep() != 2 {
		t.Errorf("Deep: got %d", own.Deep())
	}
}

// P5.1 (E1): one value of each kind, put in and taken out.
func TestOneOfEach(t *testing.T) {
	for _, v := range ordered() {
		b := newBoth()
		b.add(t, v)
		b.check(t)
		if b.tree.Deep() != 1 {
			t.Fatalf("%s: deep %d", brief(v), b.tree.Deep())
		}
		for _, other := range append(ordered(), wrong()...) {
			checkValue(t, b.tree, b.model, other)
			if other != v {
				b.del(t, other)
			}
		}
		b.check(t)
		b.del(t, v)
		b.check(t)
		b.del(t, v)
		b.check(t)
	}
}

// P5.1 (E1, E2), P5.3: all kinds, in whatever order they came, stand in this one.
func TestAllKinds(t *testing.T) {
	all := ordered()
	r := newValues(1)
	for _, l := range [][]api.Value{all, reversed(all), r.mixed(all), r.mixed(all), r.mixed(all)} {
		b := newBoth()
		for _, v := range l {
			b.add(t, v)
			b.check(t)
		}
		if got := b.tree.List(); !slices.Equal(got, all) {
			t.Fatalf("List: got %v", got)
		}
		for k, v := range all {
			if got := b.tree.Rank(v); got != k {
				t.Fatalf("Rank of %s: got %d, want %d", brief(v), got, k)
			}
		}
	}
}

// P5.1 (E1, E2): Add of what is not right is false, and changes nothing; Del of it is false; Count and Rank of it are 0, whatever it would stand behind.
func TestWrong(t *testing.T) {
	r := newValues(2)
	for _, l := range [][]api.Value{nil, {{}}, {num("1")}, ordered(), reversed(ordered()), r.list(200)} {
		b := newBoth(l...)
		for _, v := range wrong() {
			if b.tree.Add(v) {
				t.Fatalf("%s is put in", brief(v))
			}
			if b.tree.Del(v) {
				t.Fatalf("%s is taken out", brief(v))
			}
			if b.tree.Count(v) != 0 || b.tree.Rank(v) != 0 {
				t.Fatalf("%s: Count %d, Rank %d", brief(v), b.tree.Count(v), b.tree.Rank(v))
			}
		}
		b.check(t)
	}
}

// P5.1 (E1, E2): one value many times, alone and among others.
func TestManyTimes(t *testing.T) {
	for _, v := range []api.Value{{}, num("3/2"), num("0"), text("a, b"), sym("m"), boolean("true"), id("7"), set("1, 2")} {
		b := newBoth()
		for range 300 {
			b.add(t, v)
			checkSizes(t, b.tree, len(b.model), 1)
		}
		b.check(t)
		if b.tree.Deep() != 1 || b.tree.Count(v) != 300 {
			t.Fatalf("%s: deep %d, %d times", brief(v), b.tree.Deep(), b.tree.Count(v))
		}
		for _, other := range ordered() {
			b.add(t, other)
		}
		b.check(t)
		for range 301 {
			b.del(t, v)
			checkSizes(t, b.tree, len(b.model), len(b.model.unlike()))
		}
		b.check(t)
		b.del(t, v)
		b.check(t)
	}
}

// P5.1 (E1): Del of what is not in, or is in no more, is false, and changes nothing.
func TestDelOfNone(t *testing.T) {
	b := newBoth(num("1"), num("3"), num("3"), sym("a"))
	for _, v := range []api.Value{{}, num("0"), num("2"), num("4"), num("3/2"), text("1"), text("a"), sym("b"), id("1"), id("3"), set("1"), set(""), boolean("true")} {
		b.del(t, v)
		b.check(t)
	}
	for _, v := range []api.Value{num("3"), num("3"), num("3"), num("1"), num("1"), sym("a"), sym("a")} {
		b.del(t, v)
		b.check(t)
	}
	if b.tree.Many() != 0 || b.tree.Deep() != 0 {
		t.Fatalf("%d are left, deep %d", b.tree.Many(), b.tree.Deep())
	}
}

// P5.1 (E1): the one at the root taken out, and any other one, of trees of a few: all orders in which five come, and each one taken out.
func TestDelOfEach(t *testing.T) {
	inOrders(row(5), func(l []api.Value) {
		for _, v := range l {
			b := newBoth(l...)
			b.del(t, v)
			b.check(t)
			b.add(t, v)
			b.check(t)
		}
	})
}

// inOrders calls f with some values in each order.
func inOrders(l []api.Value, f func([]api.Value)) {
	var order func(n int)
	order = func(n int) {
		if n == len(l) {
			f(slices.Clone(l))
		}
		for i := n; i < len(l); i++ {
			l[n], l[i] = l[i], l[n]
			order(n + 1)
			l[n], l[i] = l[i], l[n]
		}
	}
	order(0)
}

// P5.1 (E1): each one of a greater tree taken out, which stands at the root, at the bottom, or between.
func TestDelOfEachOfMany(t *testing.T) {
	r := newValues(3)
	for _, n := range []int{1, 2, 3, 4, 7, 8, 12, 20, 33, 54} {
		all := row(n)
		for _, l := range [][]api.Value{all, reversed(all), r.mixed(all)} {
			for _, v := range all {
				b := newBoth(l...)
				b.del(t, v)
				b.check(t)
			}
		}
	}
}

// P5.1 (E1): always the middle one taken out, that stands at the root of a full tree, down to none.
func TestDelOfRoot(t *testing.T) {
	b := newBoth()
	for _, v := range []int{8, 4, 12, 2, 6, 10, 14, 1, 3, 5, 7, 9, 11, 13, 15} {
		b.add(t, whole(v))
	}
	if b.tree.Deep() != 4 {
		t.Fatalf("deep %d", b.tree.Deep())
	}
	for b.tree.Kinds() > 0 {
		v, _ := b.tree.At(b.tree.Many() / 2)
		b.del(t, v)
		b.check(t)
	}
}

// P5.1 (E2): Rank of what is in, and of what is not.
func TestRank(t *testing.T) {
	b := newBoth()
	for _, v := range []api.Value{num("2"), num("2"), num("4"), sym("b"), sym("b"), sym("b"), sym("d"), set("1")} {
		b.add(t, v)
	}
	for _, c := range []struct {
		v    api.Value
		want int
	}{
		{api.Value{}, 0}, {num("-1"), 0}, {num("1"), 0}, {num("3/2"), 0}, {num("2"), 0}, {num("5/2"), 2}, {num("3"), 2}, {num("4"), 2}, {num("9/2"), 3}, {num("10"), 3}, {text(""), 3}, {text("2"), 3},
		{sym("a"), 3}, {sym("b"), 3}, {sym("b0"), 6}, {sym("c"), 6}, {sym("d"), 6}, {sym("e"), 7}, {boolean("true"), 7}, {id("1"), 7}, {set(""), 7}, {set("1"), 7}, {set("1, 2"), 8}, {set("2"), 8},
	} {
		if got := b.tree.Rank(c.v); got != c.want {
			t.Errorf("Rank of %s: got %d, want %d", brief(c.v), got, c.want)
		}
	}
}

// P5.1 (E2): Kinds and Many, of one value put in often, and others.
func TestKindsAndMany(t *testing.T) {
	own := tree.New()
	for i := 1; i <= 1000; i++ {
		own.Add(sym("a"))
		checkSizes(t, own, i, 1)
	}
	for i := 1; i <= 200; i++ {
		own.Add(whole(i))
		checkSizes(t, own, 1000+i, 1+i)
		own.Add(sym("a"))
		own.Del(sym("a"))
	}
	checkSizes(t, own, 1200, 201)
}

// P5.1 (E3): Sum of no Nums is 0, whatever else is in, digits too.
func TestSumOfNoNums(t *testing.T) {
	b := newBoth()
	for _, v := range ordered() {
		if v.Kind != api.Num {
			b.add(t, v)
			b.add(t, v)
		}
	}
	b.check(t)
	if s, err := b.tree.Sum(); s != "0" || err != api.OK {
		t.Fatalf("got %s, %d", s, err)
	}
}

// P5.1 (E3): Sum of Nums among others, each as often as it is in; of those that make 0 it is 0.
func TestSum(t *testing.T) {
	for _, c := range []struct {
		l    []api.Value
		want string
	}{
		{[]api.Value{num("7")}, "7"},
		{[]api.Value{num("7"), num("7"), num("7")}, "21"},
		{[]api.Value{num("0"), num("0")}, "0"},
		{[]api.Value{num("1/2"), num("1/2")}, "1"},
		{[]api.Value{num("1/2"), num("1/2"), num("1/2")}, "3/2"},
		{[]api.Value{num("-1/6"), num("-1/6"), num("-1/6"), num("1/2")}, "0"},
		{[]api.Value{num("1/2"), num("1/3"), num("1/6"), num("-1")}, "0"},
		{[]api.Value{num("5"), num("-5"), num("5"), num("-5")}, "0"},
		{[]api.Value{num("-3"), num("2"), num("2"), num("2"), num("-3"), num("1/7")}, "1/7"},
		{[]api.Value{{}, {}, num("3"), text("4"), sym("a"), id("5"), set("6"), num("1/2"), boolean("true")}, "7/2"},
		{[]api.Value{num("18446744073709551616"), num("18446744073709551616"), num("-1")}, "36893488147419103231"},
	} {
		r := newValues(4)
		for range 5 {
			own := newBoth(r.mixed(c.l)...).tree
			if s, err := own.Sum(); s != c.want || err != api.OK {
				t.Errorf("%v: got %s, %d, want %s", c.l, s, err, c.want)
			}
		}
	}
}

// P5.1 (E3): a sum whose text has 900 bytes is told; of one with more there is none, but ErrTooMany.
func TestSumOfMost(t *testing.T) {
	for n := mostSum - 3; n <= mostSum+3; n++ {
		for _, sign := range []string{"", "-"} {
			own := tree.New()
			l, want := parts(n, sign)
			if len(want) != n {
				t.Fatalf("no sum of %d bytes", n)
			}
			for _, s := range l {
				if !own.Add(num(s)) {
					t.Fatalf("%s is not put in", brief(num(s)))
				}
			}
			wantErr := api.OK
			if n > mostSum {
				want, wantErr = "", api.ErrTooMany
			}
			if s, err := own.Sum(); s != want || err != wantErr {
				t.Errorf("%d bytes: got %s, %d", n, brief(num(s)), err)
			}
		}
	}
}

// parts is numbers whose sum's text has n bytes, and that text: a whole one, and two with denominators that have nothing in common.
func parts(n int, sign string) ([]string, string) {
	for long := 280; long < 300; long++ {
		for down := range 8 {
			l := []string{sign + times("2", long), sign + "1/" + ten(148), sign + "1/" + nines(148+down)}
			sum := new(big.Rat)
			for _, s := range l {
				part, _ := new(big.Rat).SetString(s)
				sum.Add(sum, part)
			}
			if s := sum.RatString(); len(s) == n {
				return l, s
			}
		}
	}
	return nil, ""
}

// P5.1 (E3): a sum that is far too long, more than rat has room for too; and what is long on the way alone.
func TestSumTooLong(t *testing.T) {
	b := newBoth()
	r := newValues(5)
	for i := range 40 {
		b.add(t, num("1/"+nines(250 + i%40)[:200+i]+"7"))
		checkSum(t, b.tree, b.model)
	}
	if s, err := b.tree.Sum(); s != "" || err != api.ErrTooMany {
		t.Fatalf("got %d bytes, %d", len(s), err)
	}
	for _, v := range r.mixed(b.model) {
		b.add(t, num("-"+v.S))
	}
	b.add(t, num("5/7"))
	if s, err := b.tree.Sum(); s != "5/7" || err != api.OK {
		t.Fatalf("got %s, %d", s, err)
	}
	b.add(t, num("1/"+nines(298)))
	checkSum(t, b.tree, b.model)
}

// P5.1 (E3): one long Num as often as it is in.
func TestSumOfOneOften(t *testing.T) {
	for _, v := range []api.Value{num(nines(300)), num("-" + nines(299)), num("1/" + nines(298)), num(nines(149) + "/" + ten(149))} {
		b := newBoth()
		for range 110 {
			b.add(t, v)
		}
		checkSum(t, b.tree, b.model)
		for range 105 {
			b.del(t, v)
		}
		checkSum(t, b.tree, b.model)
	}
}

// P5.1, P2: the error is this number.
func TestError(t *testing.T) {
	own := tree.New()
	for i := range 9 {
		own.Add(num("1/" + nines(290-i)))
	}
	if _, err := own.Sum(); err != 2 {
		t.Errorf("got %d", err)
	}
}

// P5.1 (E3): Deep of full trees is that of their ways down, and of others not less than it must be.
func TestDeep(t *testing.T) {
	own := tree.New()
	for i, want := range []int{1, 2, 2, 3} {
		own.Add(whole([]int{2, 1, 3, 4}[i]))
		if own.Deep() != want {
			t.Errorf("%d unlike ones: deep %d", i+1, own.Deep())
		}
	}
	own.Add(whole(4))
	if own.Deep() != 3 {
		t.Errorf("one more that is in: deep %d", own.Deep())
	}
	for i, want := range []int{3, 2, 2, 1, 0} {
		own.Del(whole([]int{4, 4, 1, 3, 2}[i]))
		if own.Deep() != want {
			t.Errorf("%d taken out: deep %d, want %d", i+1, own.Deep(), want)
		}
	}
}
