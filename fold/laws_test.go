package fold_test

import (
	"slices"
	"testing"

	"tribunal/api"
	"tribunal/rat"
	"tribunal/value"
)

// P6.2 (a fold), P6.1: put in and taken out in turns, down to none, and up again.
func TestInTurns(t *testing.T) {
	eachKind(t, func(t *testing.T, kind int) {
		r := newValues(4)
		b := newBoth(kind)
		empty := 0
		for turn := range 1500 {
			falling := turn/150%2 == 1
			switch {
			case r.Intn(20) == 0:
				v := wrong()[r.Intn(len(wrong()))]
				b.add(t, v)
				b.del(t, v)
			case len(b.model.l) > 0 && (falling && r.Intn(8) > 0 || r.Intn(4) == 0):
				b.del(t, b.model.l[r.Intn(len(b.model.l))])
			case r.Intn(6) == 0:
				b.del(t, r.right(kind))
			case !falling:
				b.add(t, r.right(kind))
			}
			b.check(t)
			if len(b.model.l) == 0 {
				empty++
			}
		}
		if empty < 50 {
			t.Fatalf("it was empty %d times", empty)
		}
	})
}

// P6.2: what comes of values is the same in whatever order they came.
func TestOrders(t *testing.T) {
	eachKind(t, func(t *testing.T, kind int) {
		r := newValues(5)
		for range 60 {
			l := r.list(kind, r.Intn(30))
			one := newBoth(kind, l...)
			for range 4 {
				other := newBoth(kind, r.mixed(l)...)
				other.check(t)
				if got, want := other.fold.Result(), one.fold.Result(); got != want {
					t.Fatalf("%v: got %s, want %s", l, brief(got), brief(want))
				}
			}
		}
	})
}

// P6.2: nor does it hang on what was put in and taken out between.
func TestBetween(t *testing.T) {
	eachKind(t, func(t *testing.T, kind int) {
		r := newValues(6)
		for range 80 {
			l, more := r.list(kind, r.Intn(20)), r.list(kind, r.Intn(30))
			one, other := newBoth(kind, l...), newBoth(kind)
			for _, v := range r.mixed(append(slices.Clone(l), more...)) {
				other.add(t, v)
				other.fold.Result()
			}
			for _, v := range r.mixed(more) {
				other.del(t, v)
				other.check(t)
			}
			if got, want := other.fold.Result(), one.fold.Result(); got != want || other.fold.Many() != len(l) {
				t.Fatalf("%v: got %s of %d, want %s", l, brief(got), other.fold.Many(), brief(want))
			}
		}
	})
}

// P6.2: all orders of a few values, some of them alike, and each one taken out and put in again.
func TestAllOrders(t *testing.T) {
	eachKind(t, func(t *testing.T, kind int) {
		few := []api.Value{num("2"), num("-1/2"), num("2"), num("7"), sym("a")}
		if isOfNums(kind) {
			few[4] = num("1/3")
		}
		want := newBoth(kind, few...).fold.Result()
		inOrders(few, func(l []api.Value) {
			b := newBoth(kind, l...)
			for _, v := range l {
				b.del(t, v)
				b.check(t)
				b.add(t, v)
				b.check(t)
			}
			if got := b.fold.Result(); got != want {
				t.Fatalf("%v: got %s, want %s", l, brief(got), brief(want))
			}
		})
	})
}

// inOrders calls f with some values in each order.
func inOrders(l []api.Value, f func([]api.Value)) {
	var order func(n int)
	order = func(n int) {
		if n == len(l) {
			f(slices.Clone(l))
		}
		for i := n; i < len(l); i++ {
			l[n], l[i] = l[i], l[n]
			order(n + 1)
			l[n], l[i] = l[i], l[n]
		}
	}
	order(0)
}

// P6.2: how often each one is in counts; that it is in counts alone for a set, and for both ends.
func TestHowOften(t *testing.T) {
	one, more := nums("1", "4"), nums("1", "4", "4")
	for i, want := range [][2]api.Value{{num("2"), num("3")}, {num("5"), num("9")}, {num("1"), num("1")}, {num("4"), num("4")}, {num("5/2"), num("3")}, {set("1, 4"), set("1, 4")}} {
		checkResult(t, i+1, one, want[0])
		checkResult(t, i+1, more, want[1])
	}
}

// P6.3 (between): an average is not less than the least one, nor greater than the greatest; times how many there are it is the sum.
func TestAverageIsBetween(t *testing.T) {
	r := newValues(7)
	told := 0
	for range 1500 {
		l := r.list(api.FoldAvg, 1+r.Intn(12))
		avg := newBoth(api.FoldAvg, l...).fold.Result()
		if avg.Kind != api.Num {
			continue
		}
		told++
		least, greatest := newBoth(api.FoldMin, l...).fold.Result(), newBoth(api.FoldMax, l...).fold.Result()
		if rat.Cmp(avg.S, least.S) < 0 || rat.Cmp(avg.S, greatest.S) > 0 {
			t.Fatalf("%v: average %s, between %s and %s", l, brief(avg), brief(least), brief(greatest))
		}
		checkTimes(t, l, avg)
	}
	if told < 500 {
		t.Fatalf("%d averages were told", told)
	}
}

// checkTimes fails, unless an average, times how many there are, is the sum of them.
func checkTimes(t *testing.T, l []api.Value, avg api.Value) {
	t.Helper()
	product, err := rat.Mul(avg.S, whole(len(l)).S)
	all, _ := model{l: l}.total()
	if product != all.RatString() || err != api.OK {
		t.Fatalf("%v: average %s, times %d is %s, %d", l, brief(avg), len(l), brief(num(product)), err)
	}
	sum := newBoth(api.FoldSum, l...).fold.Result()
	if want := num(product); value.Right(want) && sum != want || !value.Right(want) && sum != (api.Value{}) {
		t.Fatalf("%v: average %s, sum %s", l, brief(avg), brief(sum))
	}
}

// P6.3: the average of one value, however often, is that value; of others it is neither the least nor the greatest.
func TestAverageOfAlike(t *testing.T) {
	for _, v := range ordered() {
		if v.Kind == api.Num {
			for _, n := range []int{1, 2, 3, 10, 77} {
				checkResult(t, api.FoldAvg, often(v, n), v)
			}
		}
	}
	r := newValues(8)
	for range 300 {
		l := nums("-101", "101")
		for range r.Intn(8) {
			l = append(l, whole(r.Intn(203)-101))
		}
		avg := newBoth(api.FoldAvg, l...).fold.Result()
		if rat.Cmp(avg.S, "-101") <= 0 || rat.Cmp(avg.S, "101") >= 0 {
			t.Fatalf("%v: average %s", l, brief(avg))
		}
		checkTimes(t, l, avg)
	}
}
