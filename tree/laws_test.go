package tree_test

import (
	"slices"
	"testing"

	"tribunal/api"
	"tribunal/tree"
	"tribunal/value"
)

// P5.2 (a multiset): what is put in, and taken out, leaves what was there.
func TestThereAndBack(t *testing.T) {
	r := newValues(6)
	for range 120 {
		b := newBoth(r.list(r.Intn(40))...)
		before := slices.Clone(b.model)
		more := r.list(r.Intn(60))
		for _, v := range more {
			b.add(t, v)
		}
		b.check(t)
		for _, v := range r.mixed(more) {
			b.del(t, v)
		}
		checkTree(t, b.tree, before)
		checkTree(t, newBoth(r.mixed(before)...).tree, before)
	}
}

// P5.2: what is taken out, and put in again, leaves what was there.
func TestOutAndIn(t *testing.T) {
	r := newValues(7)
	for range 120 {
		b := newBoth(r.list(1 + r.Intn(60))...)
		before := slices.Clone(b.model)
		out := r.mixed(before)[:r.Intn(len(before)+1)]
		for _, v := range out {
			b.del(t, v)
		}
		b.check(t)
		for _, v := range r.mixed(out) {
			b.add(t, v)
		}
		checkTree(t, b.tree, before)
	}
}

// P5.2, P5.1: put in and taken out in turns, down to none, and up again.
func TestInTurns(t *testing.T) {
	r := newValues(8)
	b := newBoth()
	empty := 0
	for turn := range 4000 {
		falling := turn/400%2 == 1
		switch {
		case r.Intn(20) == 0:
			all := wrong()
			v := all[r.Intn(len(all))]
			b.add(t, v)
			b.del(t, v)
		case len(b.model) > 0 && (falling && r.Intn(8) > 0 || r.Intn(4) == 0):
			b.del(t, b.model[r.Intn(len(b.model))])
		case r.Intn(6) == 0:
			b.del(t, r.right())
		case !falling:
			b.add(t, r.right())
		}
		if len(b.model) == 0 {
			empty++
		}
		checkSizes(t, b.tree, len(b.model), len(b.model.unlike()))
		if turn%32 == 0 {
			b.check(t)
		}
	}
	if empty < 100 {
		t.Fatalf("it was empty %d times", empty)
	}
}

// P5.2: two that have the same tell the same, whatever came and went between, in whatever order.
func TestSameOfSame(t *testing.T) {
	r := newValues(9)
	for range 100 {
		l := r.list(r.Intn(50))
		one, other := newBoth(l...), newBoth()
		for _, v := range r.mixed(append(r.mixed(l), l...)) {
			other.add(t, v)
		}
		for _, v := range r.mixed(l) {
			other.del(t, v)
		}
		one.check(t)
		checkTree(t, other.tree, one.model)
	}
}

// P5.3 (order): At goes up with the order; Rank of At of k is the first place of that value, and At of Rank of one that is in is that.
func TestAtAndRank(t *testing.T) {
	r := newValues(10)
	for range 60 {
		own := newBoth(r.list(r.Intn(150))...).tree
		last := api.Value{}
		for k := range own.Many() {
			v, is := own.At(k)
			if !is || k > 0 && value.Cmp(last, v) > 0 {
				t.Fatalf("At %d: %s, %v, behind %s", k, brief(v), is, brief(last))
			}
			if rank := own.Rank(v); rank > k || k-rank >= own.Count(v) {
				t.Fatalf("At %d: %s, of Rank %d, %d times in", k, brief(v), rank, own.Count(v))
			}
			last = v
		}
		checkRanks(t, own)
	}
}

// checkRanks fails, unless the unlike ones stand where those ahead of them end, and others between them.
func checkRanks(t *testing.T, own *tree.Tree) {
	t.Helper()
	ahead := 0
	for _, v := range own.List() {
		if rank := own.Rank(v); rank != ahead {
			t.Fatalf("Rank of %s: %d, want %d", brief(v), rank, ahead)
		}
		if back, is := own.At(ahead); back != v || !is {
			t.Fatalf("At %d: %s, %v, want %s", ahead, brief(back), is, brief(v))
		}
		ahead += own.Count(v)
	}
	if ahead != own.Many() {
		t.Fatalf("all are %d, not %d", ahead, own.Many())
	}
	r := newValues(11)
	for range 40 {
		v := r.right()
		rank := own.Rank(v)
		if before, is := own.At(rank - 1); is && value.Cmp(before, v) >= 0 {
			t.Fatalf("Rank of %s: %d, behind %s", brief(v), rank, brief(before))
		}
		if next, is := own.At(rank); is && value.Cmp(next, v) < 0 {
			t.Fatalf("Rank of %s: %d, ahead of %s", brief(v), rank, brief(next))
		}
	}
}

// P5.4 (flat): of many that come in order, in the other order, from both ends, and in none; and as they are taken out again in each of these orders.
func TestFlat(t *testing.T) {
	r := newValues(12)
	all := row(1100)
	orders := [][]api.Value{all, reversed(all), ends(all), reversed(ends(all)), r.mixed(all)}
	for _, in := range orders {
		for _, out := range orders {
			own := tree.New()
			for i, v := range in {
				own.Add(v)
				checkSizes(t, own, i+1, i+1)
			}
			for i, v := range out {
				own.Del(v)
				checkSizes(t, own, len(out)-i-1, len(out)-i-1)
			}
		}
	}
}

// ends is l from both ends on.
func ends(l []api.Value) []api.Value {
	out := make([]api.Value, 0, len(l))
	for i := range l {
		if i%2 == 0 {
			out = append(out, l[i/2])
		} else {
			out = append(out, l[len(l)-1-i/2])
		}
	}
	return out
}

// P5.4: a window that goes along the values, so that one side is always taken out.
func TestFlatWindow(t *testing.T) {
	own := tree.New()
	for i := range 5000 {
		own.Add(whole(i))
		if i >= 37 {
			own.Del(whole(i - 37))
		}
		checkSizes(t, own, min(i+1, 37), min(i+1, 37))
	}
	if l := own.List(); !slices.Equal(l, row(5000)[4963:]) {
		t.Fatalf("got %v", l)
	}
}

// P5.4: with some taken out all along, those that are left, in order, stand flat; and what is put in there again.
func TestFlatOfSome(t *testing.T) {
	for _, step := range []int{2, 3, 7, 64} {
		b := newBoth(row(400)...)
		for i := range 400 {
			if i%step != 0 {
				b.del(t, whole(i))
				checkSizes(t, b.tree, len(b.model), len(b.model))
			}
		}
		b.check(t)
		for i := range 400 {
			if i%step == 1 {
				b.add(t, whole(i))
			}
		}
		b.check(t)
	}
}

// P5.4, P1: very many.
func TestVeryMany(t *testing.T) {
	const n = 30000
	own := tree.New()
	for i := range n {
		own.Add(id(whole(i).S))
	}
	checkSizes(t, own, n, n)
	for _, k := range []int{0, 1, n / 3, n - 1} {
		if v, is := own.At(k); v != id(whole(k).S) || !is || own.Rank(v) != k {
			t.Fatalf("At %d: %s, %v, Rank %d", k, brief(v), is, own.Rank(v))
		}
	}
	for i := range n {
		if i%1000 != 0 {
			own.Del(id(whole(i).S))
		}
	}
	checkSizes(t, own, n/1000, n/1000)
}
