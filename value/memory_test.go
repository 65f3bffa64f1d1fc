package value_test

import (
	"slices"
	"testing"

	"tribunal/api"
	"tribunal/value"
)

// P3: what SetOf is handed is not changed, nor its spare room, nor kept.
func TestSetOfLeavesAlone(t *testing.T) {
	r := newValues(8)
	lists := [][]api.Value{nil, {{}}, {num("2"), num("1"), num("2")}, {set("1"), num("x"), sym("b"), sym("a")}, row(0, 2000)}
	for range 300 {
		lists = append(lists, r.list(20))
	}
	for _, l := range lists {
		roomy := append(slices.Clone(l), num("0"), set("1"), text("room"), sym("a"))
		before := slices.Clone(roomy)
		first := value.SetOf(roomy[:len(l)])
		if !slices.Equal(roomy, before) {
			t.Fatalf("SetOf of %v has changed it", l)
		}
		want := setOf(l)
		for i := range roomy {
			roomy[i] = num("77")
		}
		if first != want || value.SetOf(l) != want {
			t.Fatalf("SetOf of %v: got %q, want %q", l, brief(first.S), brief(want.S))
		}
	}
}

// P3: what Members answers is new memory, its spare room too.
func TestMembersAreNew(t *testing.T) {
	for _, v := range sets() {
		want, _ := membersOf(v.S)
		for range 3 {
			l, _ := value.Members(v)
			if !slices.Equal(l, want) {
				t.Fatalf("%q: got %v", brief(v.S), l)
			}
			l = l[:cap(l)]
			for i := range l {
				l[i] = sym("changed")
			}
		}
	}
}

// P3: each call's answer hangs on its arguments alone, whatever was called ahead of it, wrong calls too.
func TestSameAgain(t *testing.T) {
	r := newValues(9)
	bad := wrong()
	for range 2000 {
		a, b := r.right(), r.right()
		s := written(a)
		for range 2 {
			if value.Show(a) != s || value.Cmp(a, b) != order(a, b) || !value.Right(a) {
				t.Fatalf("%q and %q are told otherwise", a.S, b.S)
			}
			checkRead(t, s)
			x := bad[r.Intn(len(bad))]
			value.Right(x)
			value.Show(x)
			value.Cmp(x, a)
			value.Read(x.S)
			value.Name(x.S)
			value.SetOf([]api.Value{x, a})
			value.Members(x)
		}
	}
}

// P1: any two values end, without a panic, and are as another one tells them.
func FuzzValues(f *testing.F) {
	all := append(append(singles(), sets()...), wrong()...)
	for i, v := range all {
		f.Add(v.Kind, v.S, all[(i*7+1)%len(all)].S)
		f.Add(v.Kind, written(v), v.S)
	}
	f.Fuzz(func(t *testing.T, kind int, s, u string) {
		a, b := api.Value{Kind: kind, S: s}, api.Value{Kind: kind, S: u}
		for _, v := range []api.Value{a, b} {
			checkValue(t, v)
		}
		if got := value.Cmp(a, b); got != order(a, b) || got != -value.Cmp(b, a) {
			t.Fatalf("Cmp of %d %q and %q: got %d, want %d", kind, s, u, got, order(a, b))
		}
		l := []api.Value{a, text(s), sym(u), num(u), num(s), id(s), b, id(u), sym(s), text(u), set(s), {}}
		if got, want := value.SetOf(l), setOf(l); got != want {
			t.Fatalf("SetOf of %q and %q: got %q, want %q", s, u, got.S, want.S)
		}
	})
}

// checkValue fails, unless all that is told of one value is as it has to be.
func checkValue(t *testing.T, v api.Value) {
	t.Helper()
	checkRead(t, v.S)
	shown := ""
	if isRight(v) {
		shown = written(v)
	}
	if value.Right(v) != isRight(v) || value.Show(v) != shown || value.Name(v.S) != isSingle(sym(v.S)) {
		t.Fatalf("%d %q: %v, %q, %v", v.Kind, v.S, value.Right(v), value.Show(v), value.Name(v.S))
	}
	l, is := value.Members(v)
	if is != (v.Kind == api.Set && isRight(v)) || is && join(l) != v.S || !is && len(l) > 0 {
		t.Fatalf("Members of %d %q: %v, %v", v.Kind, v.S, l, is)
	}
	for _, one := range l {
		if !isSingle(one) {
			t.Fatalf("Members of %d %q: %v", v.Kind, v.S, one)
		}
	}
}

// P1: random texts, of all kinds, most of them such as values are written with.
func TestAnyValue(t *testing.T) {
	r := newValues(10)
	for range 60000 {
		v := api.Value{Kind: r.Intn(9) - 1, S: r.of("\"\"'#{}012, -/aetru\x00\xff", r.Intn(10))}
		if r.Intn(3) == 0 {
			v.S = nearly(r, join(append(r.list(3), num("1"))))
		}
		checkValue(t, v)
	}
}
