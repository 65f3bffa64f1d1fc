package fold_test

import (
	"testing"

	"tribunal/api"
	"tribunal/fold"
)

// P3: what Result told is one's own: who asked may change it, and the fold tells the same again.
func TestResultIsOwn(t *testing.T) {
	eachKind(t, func(t *testing.T, kind int) {
		r := newValues(9)
		for _, l := range [][]api.Value{nil, nums("1"), nums("2", "1/2", "2"), r.list(kind, 30)} {
			b := newBoth(kind, l...)
			for range 3 {
				got := b.fold.Result()
				got.Kind, got.S = api.Sym, "changed"
				b.check(t)
			}
		}
	})
}

// P3: what Result told stays as it was when the fold changes.
func TestResultStays(t *testing.T) {
	eachKind(t, func(t *testing.T, kind int) {
		b := newBoth(kind, nums("2", "1/2", "2")...)
		before, want := b.fold.Result(), b.model.result()
		for _, v := range nums("2", "2", "1/2") {
			b.del(t, v)
			b.add(t, num("77"))
			b.add(t, num("-77/2"))
		}
		if before != want || b.fold.Result() == before {
			t.Fatalf("got %s, want %s, and then %s", brief(before), brief(want), brief(b.fold.Result()))
		}
	})
}

// P3: what was handed in is not kept as a place: it may be changed, and the fold stays as it is.
func TestAddedIsOwn(t *testing.T) {
	eachKind(t, func(t *testing.T, kind int) {
		b := newBoth(kind)
		l := nums("3", "1", "3", "2")
		for i := range l {
			b.add(t, l[i])
			l[i] = num("1000")
			b.check(t)
		}
	})
}

// P3: folds have nothing in common: what one is given, the other one does not have, of one kind or another.
func TestFoldsAlone(t *testing.T) {
	r := newValues(10)
	var all []*both
	for kind := 1; kind <= 6; kind++ {
		all = append(all, newBoth(kind), newBoth(kind))
	}
	for range 1500 {
		b := all[r.Intn(len(all))]
		b.add(t, r.right(b.model.kind))
		if len(b.model.l) > 20 {
			b.del(t, b.model.l[r.Intn(len(b.model.l))])
		}
	}
	for _, b := range all {
		b.check(t)
	}
	for kind := 1; kind <= 6; kind++ {
		newBoth(kind).check(t)
	}
}

// P3: what is asked changes nothing: each answer is the same again, whatever wrong calls came between.
func TestSameAgain(t *testing.T) {
	eachKind(t, func(t *testing.T, kind int) {
		r := newValues(11)
		for range 10 {
			b := newBoth(kind, r.list(kind, r.Intn(25))...)
			for range 3 {
				b.check(t)
				for _, v := range wrong() {
					b.fold.Add(v)
					b.fold.Del(v)
				}
				fold.New(kind).Add(num("5"))
				fold.Kind("none")
				fold.Name(kind + 7)
				b.check(t)
			}
		}
	})
}

// P1, P2: any calls end, without a panic, and are as another one tells them.
func FuzzCalls(f *testing.F) {
	f.Add(1, 0, "", []byte{0, 1, 2, 3})
	f.Add(2, 1, "3/2", []byte{0, 0, 200, 9, 9, 130, 7})
	f.Add(5, 1, "-7", []byte("in and out, and in again"))
	f.Add(6, 6, "1, 2", []byte{255, 128, 0, 254, 127, 1, 1, 129})
	f.Add(3, 7, "1", []byte("\x3f\x3e\x3d\xbf"))
	f.Add(4, 2, "count", []byte("\x2f\x2e\x2d\xaf"))
	f.Add(0, 3, "sum", []byte("none"))
	f.Fuzz(func(t *testing.T, kind, sort int, s string, calls []byte) {
		checkNames(t, kind, s)
		if fold.New(kind) == nil {
			return
		}
		few := append(ordered(), api.Value{Kind: sort, S: s}, num(s), num("1/"+s), text(s), sym(s), boolean(s), id(s), set(s))
		few = few[max(0, len(few)-64):]
		b := newBoth(kind)
		for _, c := range calls[:min(len(calls), 200)] {
			v := few[int(c%128)%len(few)]
			if c < 128 {
				b.add(t, v)
			} else {
				b.del(t, v)
			}
			b.check(t)
		}
	})
}

// checkNames fails, unless a number and a name are told as kinds if they are.
func checkNames(t *testing.T, kind int, name string) {
	t.Helper()
	wantName, wantKind := "", 0
	for i, own := range names() {
		if kind == i+1 {
			wantName = own
		}
		if name == own {
			wantKind = i + 1
		}
	}
	if got := fold.Name(kind); got != wantName {
		t.Fatalf("Name of %d: got %q, want %q", kind, got, wantName)
	}
	if got := fold.Kind(name); got != wantKind {
		t.Fatalf("Kind of %q: got %d, want %d", name, got, wantKind)
	}
	if got := fold.New(kind); (got == nil) != (wantName == "") {
		t.Fatalf("New of %d: nil is %v", kind, got == nil)
	}
}
