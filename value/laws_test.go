package value_test

import (
	"slices"
	"testing"

	"tribunal/api"
	"tribunal/value"
)

// P4.2 (there and back): a right value is read as it was written.
func TestThereAndBack(t *testing.T) {
	r := newValues(3)
	all := append(singles(), sets()...)
	for range 5000 {
		all = append(all, r.right())
	}
	for _, v := range all {
		s := value.Show(v)
		if got, err := value.Read(s); got != v || err != api.OK {
			t.Fatalf("%d %q is written %q, and read %d %q, %d", v.Kind, brief(v.S), brief(s), got.Kind, brief(got.S), err)
		}
	}
}

// P4.2: what is read is written so, of texts such as are nearly written, and of others.
func TestBackAndThere(t *testing.T) {
	r := newValues(4)
	many := 0
	for range 60000 {
		s := r.of("\"\"''#{}1203, , -/anone", r.Intn(9))
		if r.Intn(3) > 0 {
			s = nearly(r, written(r.right()))
		}
		checkRead(t, s)
		if v, err := value.Read(s); err == api.OK {
			many++
			if got := value.Show(v); got != s || !value.Right(v) {
				t.Fatalf("%q is read %d %q, and written %q", s, v.Kind, v.S, got)
			}
		}
	}
	if many < 5000 {
		t.Fatalf("only %d were read", many)
	}
}

// nearly is s, mostly with a byte less, or more, or with another one.
func nearly(r values, s string) string {
	at := r.Intn(len(s))
	more := r.of("\"'#{}0129, -/aez\n", 1)
	switch r.Intn(4) {
	case 0:
		return s[:at] + s[at+1:]
	case 1:
		return s[:at] + more + s[at:]
	case 2:
		return s[:at] + more + s[at+1:]
	}
	return s
}

// P4.2: no two right values are written alike, so that one alone is read.
func TestWrittenUnlike(t *testing.T) {
	all := append(singles(), sets()...)
	for i, v := range all {
		for _, w := range all[:i] {
			if value.Show(v) == value.Show(w) {
				t.Errorf("%d %q and %d %q are written alike", v.Kind, brief(v.S), w.Kind, brief(w.S))
			}
		}
	}
}

// P4.3 (an order): right values are alike just if they are the same; of any two it is the other way round the other way; and it goes on from one to the next.
func TestOrder(t *testing.T) {
	r := newValues(5)
	for range 20000 {
		a, b, c := r.right(), r.right(), r.right()
		if r.Intn(3) == 0 {
			b.Kind, c.Kind = a.Kind, a.Kind
		}
		if value.Right(b) && value.Right(c) {
			checkOrder(t, a, b, c)
		}
	}
	all := append(singles(), sets()...)
	for range 20000 {
		checkOrder(t, all[r.Intn(len(all))], all[r.Intn(len(all))], all[r.Intn(len(all))])
	}
}

// checkOrder fails, unless three right values are in an order.
func checkOrder(t *testing.T, a, b, c api.Value) {
	t.Helper()
	ab, bc := value.Cmp(a, b), value.Cmp(b, c)
	if ab != order(a, b) || (ab == 0) != (a == b) || value.Cmp(a, a) != 0 || ab != -value.Cmp(b, a) {
		t.Fatalf("%d %q and %d %q: %d, and %d the other way round", a.Kind, brief(a.S), b.Kind, brief(b.S), ab, value.Cmp(b, a))
	}
	if ac := value.Cmp(a, c); ab <= 0 && bc <= 0 && ac != min(ab, bc) {
		t.Fatalf("%d %q, %d %q, %d %q: %d, %d, but %d", a.Kind, brief(a.S), b.Kind, brief(b.S), c.Kind, brief(c.S), ab, bc, ac)
	}
}

// P4.3: of any two, right or not, it is the other way round the other way, and they are alike just if they are the same.
func TestOrderOfAny(t *testing.T) {
	all := append(append(wrong(), singles()...), sets()...)
	r := newValues(6)
	for range 40000 {
		a, b := all[r.Intn(len(all))], all[r.Intn(len(all))]
		if r.Intn(2) == 0 {
			a.Kind = r.Intn(7)
			b.Kind = a.Kind
		}
		got := value.Cmp(a, b)
		if got != order(a, b) || got != -value.Cmp(b, a) || (got == 0) != (a == b) {
			t.Fatalf("%d %q and %d %q: got %d, want %d, and %d the other way round", a.Kind, brief(a.S), b.Kind, brief(b.S), got, order(a, b), value.Cmp(b, a))
		}
	}
}

// P4.4 (sets): a set has each of its members once, in order, in whatever order they came.
func TestSets(t *testing.T) {
	r := newValues(7)
	for range 2000 {
		l := r.list(25)
		v := value.SetOf(l)
		have, is := value.Members(v)
		if !is || !value.Right(v) || v.Kind != api.Set {
			t.Fatalf("%v: %d %q is no set", l, v.Kind, v.S)
		}
		for i, one := range have {
			if !slices.Contains(l, one) || i > 0 && value.Cmp(have[i-1], one) >= 0 {
				t.Fatalf("%v: %v", l, have)
			}
		}
		for _, one := range l {
			if !slices.Contains(have, one) {
				t.Fatalf("%v: no %v in %v", l, one, have)
			}
		}
		r.Shuffle(len(l), func(i, j int) { l[i], l[j] = l[j], l[i] })
		l = append(l, l[:len(l)/2]...)
		if again := value.SetOf(l); again != v {
			t.Fatalf("%q, in another order %q", v.S, again.S)
		}
		if again := value.SetOf(have); again != v {
			t.Fatalf("%q, of its members %q", v.S, again.S)
		}
	}
}

// P4.4: a right set is that of its members.
func TestSetsOfMembers(t *testing.T) {
	for _, v := range sets() {
		l, is := value.Members(v)
		if got := value.SetOf(l); !is || got != v {
			t.Errorf("%q: got %q", brief(v.S), brief(got.S))
		}
		slices.Reverse(l)
		if got := value.SetOf(append(l, l...)); got != v {
			t.Errorf("%q, the other way round: got %q", brief(v.S), brief(got.S))
		}
	}
}

// P4.4: of two sets of the same members both are the same; of others they are not.
func TestSameSets(t *testing.T) {
	few := []api.Value{{}, num("1"), num("10"), text("1, 2"), text("a"), sym("a"), id("1")}
	made := make(map[string]int)
	for which := range 1 << len(few) {
		var l []api.Value
		for i, v := range few {
			if which>>i&1 == 1 {
				l = append(l, v)
			}
		}
		v := value.SetOf(l)
		if other, is := made[v.S]; is {
			t.Errorf("%b and %b are the same set %q", which, other, v.S)
		}
		made[v.S] = which
		if have, is := value.Members(v); !is || !slices.Equal(have, l) {
			t.Errorf("%v: got %v, %v", l, have, is)
		}
	}
}
