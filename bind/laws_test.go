package bind_test

import (
	"slices"
	"testing"

	"tribunal/api"
	"tribunal/bind"
)

// small is right tuples of few names and values, all that there are of them: some are alike but for one part.
func small() []api.Tuple {
	values := []api.Value{num("1"), num("10"), text("1"), {}}
	rows := [][]api.Bind{nil}
	for _, name := range []string{"a", "aa", "b"} {
		for _, row := range rows {
			for _, v := range values {
				rows = append(rows, append(slices.Clip(row), to(name, v)))
			}
		}
	}
	var l []api.Tuple
	for i, row := range rows {
		for k, ids := range [][]int{nil, {1}, {2}, {1, 2}, {2, 1}, {10}} {
			if (i+k)%5 == 0 {
				l = append(l, api.Tuple{Binds: row, Ids: ids})
			}
		}
	}
	return l
}

// P14.2: of two right tuples Cmp tells the other way round the other way; they are alike just if they are the same, and so are their Texts.
func TestOrderOfTwo(t *testing.T) {
	m, l := newMaker(10), small()
	for range 150 {
		l = append(l, m.tuple())
	}
	for _, a := range l {
		for _, b := range l {
			c := bind.Cmp(a, b)
			if c < -1 || c > 1 || c != -bind.Cmp(b, a) || (c == 0) != alike(a, b) || (bind.Text(a) == bind.Text(b)) != alike(a, b) || c != order(a, b) {
				t.Fatalf("%s and %s: %d and %d, %q and %q", brief(a), brief(b), c, bind.Cmp(b, a), bind.Text(a), bind.Text(b))
			}
		}
	}
}

// P14.2: of any three right tuples, what stands ahead of what stands ahead of one stands ahead of it.
func TestOrderOfThree(t *testing.T) {
	m, l := newMaker(11), small()
	for range 20 {
		l = append(l, m.tuple())
	}
	rows := make([][]int, len(l))
	for i, a := range l {
		for _, b := range l {
			rows[i] = append(rows[i], bind.Cmp(a, b))
		}
	}
	for i := range l {
		for k := range l {
			for j := range l {
				if rows[i][k] <= 0 && rows[k][j] <= 0 && (rows[i][j] > 0 || rows[i][j] == 0 && rows[i][k]+rows[k][j] < 0) {
					t.Fatalf("%s, %s and %s", brief(l[i]), brief(l[k]), brief(l[j]))
				}
			}
		}
	}
	for range 20000 {
		a, b, c := m.tuple(), m.tuple(), m.tuple()
		row := bind.Sort([]api.Tuple{a, b, c})
		for i := range 2 {
			if bind.Cmp(row[i], row[i+1]) > 0 || bind.Cmp(row[0], row[2]) > 0 {
				t.Fatalf("%s, %s and %s: got %s", brief(a), brief(b), brief(c), brief(row))
			}
		}
	}
}

// P14.2: the Texts of right tuples whose values are written alike are not the same: texts that look like other parts, and one kind's text of another kind.
func TestTextsAlone(t *testing.T) {
	var l []api.Tuple
	for _, v := range rightValues() {
		for _, w := range append(rightValues()[:12:12], text(`' y='a #1 `), text("'a y=#1 #2 "), text(", ")) {
			l = append(l, on(of(to("x", v))), on(of(to("x", v)), 1), on(of(to("x", v), to("y", w))), on(of(to("x", v), to("y", w)), 1, 2), on(of(to("x", v), to("y", w)), 12))
		}
	}
	seen := map[string]api.Tuple{}
	for _, one := range l {
		s := bind.Text(one)
		if was, is := seen[s]; is && !alike(was, one) {
			t.Fatalf("%s and %s: %q", brief(was), brief(one), s)
		}
		seen[s] = one
	}
}

// P14.2: Sort of the same ones in any order tells the same, as another one does.
func TestSortAnyOrder(t *testing.T) {
	m := newMaker(12)
	for range 300 {
		var l []api.Tuple
		for range m.Intn(40) {
			l = append(l, m.tuple())
		}
		want := bind.Sort(l)
		if !slices.EqualFunc(want, sorted(l), alike) {
			t.Fatalf("%s: got %s, want %s", brief(l), brief(want), brief(sorted(l)))
		}
		for range 5 {
			m.Shuffle(len(l), func(i, k int) { l[i], l[k] = l[k], l[i] })
			if got := bind.Sort(l); !slices.EqualFunc(got, want, alike) {
				t.Fatalf("%s: got %s, want %s", brief(l), brief(got), brief(want))
			}
		}
	}
}

// P14.3: a merge of right tuples is right; it has what both have, and nothing else.
func TestMergeIsRight(t *testing.T) {
	m, merged := newMaker(13), 0
	for range 20000 {
		a, b := m.tuple(), m.tuple()
		got, is := bind.Merge(a, b)
		if !is {
			continue
		}
		merged++
		all := append(slices.Clone(a.Binds), b.Binds...)
		for _, x := range all {
			if at(got, x.Name) != x.V {
				t.Fatalf("%s and %s: got %s", brief(a), brief(b), brief(got))
			}
		}
		if !bind.Right(got) || len(got.Binds) != len(byNames(all)) || !slices.Equal(got.Ids, append(slices.Clone(a.Ids), b.Ids...)) {
			t.Fatalf("%s and %s: got %s", brief(a), brief(b), brief(got))
		}
	}
	if merged < 4000 {
		t.Errorf("just %d", merged)
	}
}

// P14.3: two tuples merge just if no name has unlike values; in either order the Binds are the same; one merges with itself.
func TestMergeEitherWay(t *testing.T) {
	m := newMaker(14)
	for range 20000 {
		a, b := m.tuple(), m.tuple()
		unlike := slices.ContainsFunc(a.Binds, func(x api.Bind) bool {
			v, is := byNames(b.Binds)[x.Name]
			return is && v != x.V
		})
		ab, is := bind.Merge(a, b)
		ba, other := bind.Merge(b, a)
		if is == unlike || other == unlike || !slices.Equal(ab.Binds, ba.Binds) {
			t.Fatalf("%s and %s: got %s, %v and %s, %v", brief(a), brief(b), brief(ab), is, brief(ba), other)
		}
		if aa, is := bind.Merge(a, a); !is || !slices.Equal(aa.Binds, a.Binds) {
			t.Fatalf("%s: got %s, %v", brief(a), brief(aa), is)
		}
	}
}

// P14.3: of three in any order the Binds are the same, whichever two are merged first; the Ids are of those in the order in which they stand.
func TestMergeOfThree(t *testing.T) {
	m, merged := newMaker(15), 0
	for range 10000 {
		l := []api.Tuple{m.tuple(), m.tuple(), m.tuple()}
		var want []api.Bind
		told := 0
		for _, p := range [][3]int{{0, 1, 2}, {0, 2, 1}, {1, 0, 2}, {1, 2, 0}, {2, 0, 1}, {2, 1, 0}} {
			a, b, c := l[p[0]], l[p[1]], l[p[2]]
			left, leftIs := inTurn(a, b, c)
			right, rightIs := bind.Merge(b, c)
			if rightIs {
				right, rightIs = bind.Merge(a, right)
			}
			if leftIs != rightIs || !alike(left, right) {
				t.Fatalf("%s: got %s, %v and %s, %v", brief(l), brief(left), leftIs, brief(right), rightIs)
			}
			if !leftIs {
				continue
			}
			if told == 0 {
				want = left.Binds
			}
			told++
			if !slices.Equal(left.Binds, want) || !slices.Equal(left.Ids, slices.Concat(a.Ids, b.Ids, c.Ids)) {
				t.Fatalf("%s: got %s", brief(l), brief(left))
			}
		}
		if told != 0 && told != 6 {
			t.Fatalf("%s: merged in %d of 6 orders", brief(l), told)
		}
		merged += told
	}
	if merged < 2000 {
		t.Errorf("just %d", merged)
	}
}

// inTurn merges tuples, each with what came of those ahead.
func inTurn(first api.Tuple, l ...api.Tuple) (api.Tuple, bool) {
	is := true
	for _, t := range l {
		if first, is = bind.Merge(first, t); !is {
			return api.Tuple{}, false
		}
	}
	return first, true
}

// P14.3: With is a merge with a tuple of one variable, on no facts.
func TestWithIsMerge(t *testing.T) {
	m := newMaker(16)
	for range 5000 {
		a, name, v := m.tuple(), m.name(), m.value()
		got, is := bind.With(a, name, v)
		want, wantIs := bind.Merge(a, of(to(name, v)))
		if is != wantIs || !alike(got, want) || is && !bind.Right(got) {
			t.Fatalf("%s with %s of %v: got %s, %v, want %s, %v", brief(a), name, v, brief(got), is, brief(want), wantIs)
		}
	}
}

// P14.1: any tuples, also ones that are not right, held against another telling; enough of both.
func TestAnyTuple(t *testing.T) {
	m, told := newMaker(17), map[bool]int{}
	for range 20000 {
		one := m.any()
		switch m.Intn(3) {
		case 0:
			one = m.tuple()
		case 1:
			one = m.rising()
		}
		rightly(t, one, isRight(one))
		texts(t, one, textOf(one))
		told[isRight(one)]++
		if other := m.any(); bind.Cmp(one, other) != order(one, other) {
			t.Fatalf("%s and %s: got %d", brief(one), brief(other), bind.Cmp(one, other))
		}
	}
	if told[true] < 3000 || told[false] < 3000 {
		t.Errorf("%v", told)
	}
}
