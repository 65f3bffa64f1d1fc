package tree_test

import (
	"slices"
	"testing"

	"tribunal/api"
	"tribunal/tree"
)

// P3: a List is new memory, its spare room too: who asked may change it, and the tree, and other lists, stay as they are.
func TestListIsNew(t *testing.T) {
	r := newValues(13)
	for _, n := range []int{0, 1, 2, 5, 40} {
		b := newBoth(r.list(n)...)
		other := b.tree.List()
		for range 3 {
			l := b.tree.List()
			l = l[:cap(l)]
			for i := range l {
				l[i] = sym("changed")
			}
			_ = append(b.tree.List(), sym("more"))
			b.check(t)
		}
		if !slices.Equal(other, b.model.unlike()) {
			t.Fatalf("a list has changed: %v", other)
		}
	}
}

// P3: a List stays as it was when the tree changes.
func TestListStays(t *testing.T) {
	b := newBoth(row(20)...)
	l := b.tree.List()
	for i := range 20 {
		b.del(t, whole(i))
		b.add(t, sym("a"))
	}
	if !slices.Equal(l, row(20)) {
		t.Fatalf("got %v", l)
	}
}

// P3: trees have nothing in common: what one is given, the other one does not have.
func TestTreesAlone(t *testing.T) {
	r := newValues(14)
	all := []*both{newBoth(), newBoth(), newBoth()}
	for range 900 {
		b := all[r.Intn(len(all))]
		b.add(t, r.right())
		if len(b.model) > 30 {
			b.del(t, b.model[r.Intn(len(b.model))])
		}
	}
	for _, b := range all {
		b.check(t)
	}
	newBoth().check(t)
}

// P3: what is asked changes nothing: each answer is the same again.
func TestSameAgain(t *testing.T) {
	r := newValues(15)
	for range 30 {
		b := newBoth(r.list(r.Intn(30))...)
		deep := b.tree.Deep()
		for range 3 {
			b.check(t)
			for _, v := range append(wrong(), r.right(), r.right()) {
				checkValue(t, b.tree, b.model, v)
			}
			if b.tree.Deep() != deep {
				t.Fatalf("deep %d, then %d", deep, b.tree.Deep())
			}
		}
	}
}

// P3: the same calls make the same tree, Deep too.
func TestSameOfSameCalls(t *testing.T) {
	make1 := func() []int {
		r := newValues(16)
		own := tree.New()
		var deeps []int
		for range 600 {
			own.Add(r.right())
			own.Del(r.right())
			deeps = append(deeps, own.Deep(), own.Kinds())
		}
		return deeps
	}
	if one, other := make1(), make1(); !slices.Equal(one, other) {
		t.Fatalf("%v, and %v", one, other)
	}
}

// P1: any calls end, without a panic, and are as another one tells them.
func FuzzCalls(f *testing.F) {
	f.Add(0, "", []byte{0, 1, 2, 3})
	f.Add(1, "3/2", []byte{0, 0, 200, 9, 9, 130, 7})
	f.Add(7, "1", []byte("in and out, and in again"))
	f.Add(6, "1, 2", []byte{255, 128, 0, 254, 127, 1, 1, 129})
	f.Fuzz(func(t *testing.T, kind int, s string, calls []byte) {
		few := append(ordered(), api.Value{Kind: kind, S: s}, num(s), text(s), sym(s), boolean(s), id(s), set(s))
		few = few[max(0, len(few)-64):]
		b := newBoth()
		for _, c := range calls[:min(len(calls), 300)] {
			v := few[int(c%128)%len(few)]
			if c < 128 {
				b.add(t, v)
			} else {
				b.del(t, v)
			}
			checkValue(t, b.tree, b.model, v)
			checkAt(t, b.tree, b.model, int(c)-64)
		}
		b.check(t)
	})
}
