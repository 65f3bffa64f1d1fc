package agenda_test

import (
	"math"
	"slices"
	"testing"

	"tribunal/agenda"
	"tribunal/api"
	"tribunal/bind"
)

// stands fails, unless the first one of two stands ahead of the other one, and not the other way round; whatever Add is.
func stands(t *testing.T, saliences []int, a, b api.Change) {
	t.Helper()
	for i := range 4 {
		a.Add, b.Add = i%2 == 0, i < 2
		if !agenda.Ahead(saliences, a, b) || agenda.Ahead(saliences, b, a) {
			t.Fatalf("%v, %s and %s: got %t, and %t the other way round", saliences, line(a), line(b), agenda.Ahead(saliences, a, b), agenda.Ahead(saliences, b, a))
		}
		if agenda.Ahead(saliences, a, a) || agenda.Ahead(saliences, b, b) {
			t.Fatalf("%v, %s and %s: one stands ahead of itself", saliences, line(a), line(b))
		}
	}
	if order(saliences, a, b) != -1 || order(saliences, b, a) != 1 {
		t.Fatalf("%v, %s and %s: another one tells otherwise", saliences, line(a), line(b))
	}
}

// ints is integers that rise, whose differences do not all fit.
func ints() []int {
	return []int{math.MinInt, math.MinInt + 1, -1 << 32, -1000, -10, -9, -1, 0, 1, 9, 10, 1000, 1 << 32, math.MaxInt - 1, math.MaxInt}
}

// P20.1 (T3): the greater salience stands ahead, whatever all else is.
func TestAheadBySaliences(t *testing.T) {
	others := []string{"", "x=1 #1", "x=2 #999999999", "#1 #2 #3", "a=1", "z='z #7 #7 #7 #7"}
	for i, less := range ints() {
		for _, greater := range ints()[i+1:] {
			for _, s := range others {
				for _, other := range others {
					stands(t, []int{less, greater}, put(1, tuple(s)), put(0, tuple(other)))
					stands(t, []int{greater, less}, put(0, tuple(s)), put(1, tuple(other)))
					stands(t, []int{5, greater, 0, less, 7}, put(1, tuple(s)), put(3, tuple(other)))
				}
			}
		}
	}
}

// byIds is Ids, the first ones ahead of all others.
func byIds() [][]int {
	return [][]int{
		{1000000000}, {999999999, 999999999}, {2, 1, 999999999}, {999999999, 2}, {999999999, 1}, {999999999},
		{10, 10, 10}, {10, 10}, {9, 10}, {10, 2, 2}, {1, 2, 1, 10}, {10, 2, 1}, {10, 1, 1}, {1, 10}, {10},
		{9, 9, 9}, {9, 9, 1}, {9, 9}, {9, 8, 8}, {8, 9, 2}, {9, 8}, {9, 2}, {1, 9, 1}, {1, 9}, {9},
		{8, 8, 8, 8}, {2, 8}, {8}, {2, 2}, {2, 1, 1}, {1, 2}, {2}, {1, 1, 1, 1, 1}, {1, 1, 1, 1}, {1, 1}, {1}, {},
	}
}

// P20.1 (T3): of the same salience the greater facts stand ahead, the greatest of each first, of one rule and of two, in whatever order a tuple has them.
func TestAheadByIds(t *testing.T) {
	m := newMaker(10)
	l := byIds()
	for i := range l {
		for _, behind := range l[i+1:] {
			for range 4 {
				a, b := slices.Clone(l[i]), slices.Clone(behind)
				m.Shuffle(len(a), func(i, k int) { a[i], a[k] = a[k], a[i] })
				m.Shuffle(len(b), func(i, k int) { b[i], b[k] = b[k], b[i] })
				x, y := api.Tuple{Ids: a}, api.Tuple{Ids: b}
				if m.Intn(2) == 0 {
					x.Binds, y.Binds = tuple("x=2").Binds, tuple("x=1").Binds
				}
				stands(t, []int{3, 3}, put(0, x), put(0, y))
				stands(t, []int{3, 3}, put(1, x), put(0, y))
				stands(t, []int{-3, -3}, put(0, x), put(1, y))
			}
		}
	}
}

// P20.1 (T3): the same, by what the words name.
func TestAheadByIdsOfWords(t *testing.T) {
	for _, c := range [][2]string{
		{"0 #9 #2", "0 #9 #1"}, {"0 #2 #9", "0 #9 #1"}, {"0 #2 #9", "0 #1 #9"},
		{"0 #1 #9", "0 #2 #8"}, {"0 #9 #1", "0 #8 #2"}, {"0 #9 #1", "0 #2 #8"},
		{"0 #9 #9 #1", "0 #9 #8 #8"}, {"0 #9 #1 #9", "0 #8 #9 #8"}, {"0 #1 #9 #9", "0 #8 #8 #9"},
		{"0 #9 #1", "0 #9"}, {"0 #1 #9", "0 #9"}, {"0 #1", "0"}, {"1 #1", "0"}, {"1 #1 #9", "0 #9"},
		{"0 #10", "0 #9"}, {"0 #1000000000", "0 #999999999"}, {"0 #10", "0 #9 #9 #9"}, {"0 #100", "0 #99 #1"},
		{"1 #3", "0 #2"}, {"1 #3", "0 #2 #2 #2"}, {"0 #1 #1", "0 #1"}, {"0 #2", "0 #1 #1 #1"},
	} {
		stands(t, []int{0, 0}, of(c[0]), of(c[1]))
	}
}

// P20.1 (T3): the words go for facts' numbers that are not right, too, whose differences do not fit.
func TestAheadByWrongIds(t *testing.T) {
	l := ints()
	for i, less := range l {
		for _, greater := range l[i+1:] {
			stands(t, []int{0, 0}, put(1, api.Tuple{Ids: []int{less, greater}}), put(0, api.Tuple{Ids: []int{less, less, less}}))
			stands(t, []int{0, 0}, put(1, api.Tuple{Ids: []int{less, greater}}), put(0, api.Tuple{Ids: []int{greater}}))
		}
	}
}

// P20.1 (T3): of the same salience and facts the less place stands ahead, whatever the Binds are, and whatever the order of the facts is.
func TestAheadByPlaces(t *testing.T) {
	saliences := make([]int, 12)
	tuples := []string{"#1 #2 #2", "#2 #1 #2", "#2 #2 #1", "a=1 #1 #2 #2", "a=9 z=9 #2 #2 #1", "z={} #2 #1 #2", "a=none #1 #2 #2"}
	for i := range saliences {
		for k := range i {
			for _, s := range tuples {
				for _, other := range tuples {
					stands(t, saliences, put(k, tuple(s)), put(i, tuple(other)))
				}
			}
			stands(t, saliences, put(k, tuple("x=9")), put(i, tuple("x=1")))
			stands(t, saliences, put(k, tuple("")), put(i, tuple("")))
		}
	}
}

// tuplesInOrder is tuples on the same facts, the first one ahead of all others.
func tuplesInOrder() []api.Tuple {
	var l []api.Tuple
	binds := []string{"", "a=none", "a=-1", "a=1/3", "a=1/2", "a=2", "a=2 b=1", "a=2 b=1 c=1", "a=2 c=0", "a=10", `a=""`, `a="10"`, `a="2"`, `a="a"`, "a='a", "a=false", "a=true", "a=#2", "a=#10", "a={}", "a={1}", "a0=1", "aa=-1", "b=none", "x1=1", "x10=1", "x2=1", "z=1"}
	for _, facts := range []string{" #1 #2 #3 #3", " #1 #3 #2 #3", " #1 #3 #3 #2", " #2 #1 #3 #3", " #3 #3 #2 #1"} {
		for _, s := range binds {
			l = append(l, tuple(s+facts))
		}
	}
	return l
}

// P20.1 (T3): of the same rule and facts it is bind.Cmp: by the facts as they stand, then by the names and values.
func TestAheadByTuples(t *testing.T) {
	l := tuplesInOrder()
	for i := range l {
		for _, behind := range l[i+1:] {
			stands(t, []int{0, 4}, put(1, l[i]), put(1, behind))
			if bind.Cmp(l[i], behind) != -1 {
				t.Fatalf("%s and %s: bind tells otherwise", brief(l[i]), brief(behind))
			}
		}
	}
	for i, less := range near() {
		for k, other := range near() {
			if i != k {
				a, b := put(0, bound("x", less, 7)), put(0, bound("x", other, 7))
				if agenda.Ahead([]int{0}, a, b) != (bind.Cmp(a.T, b.T) < 0) || agenda.Ahead([]int{0}, a, b) != (values(less, other) < 0) {
					t.Fatalf("%s and %s", line(a), line(b))
				}
			}
		}
	}
}

// P20.1 (T3): nothing stands ahead of itself, nor of one that is the same in other memory.
func TestAheadOfItself(t *testing.T) {
	for _, one := range append(changed(), tuplesInOrder()...) {
		for _, rule := range []int{0, 1} {
			if agenda.Ahead([]int{1, 2}, put(rule, one), drop(rule, ownTuple(one))) || agenda.Ahead([]int{1, 2}, drop(rule, one), put(rule, ownTuple(one))) {
				t.Fatalf("%s", line(put(rule, one)))
			}
		}
	}
	if agenda.Ahead([]int{0}, put(0, api.Tuple{}), put(0, api.Tuple{Binds: []api.Bind{}, Ids: []int{}})) || agenda.Ahead([]int{0}, put(0, api.Tuple{Binds: []api.Bind{}, Ids: []int{}}), put(0, api.Tuple{})) {
		t.Error("nothing stands ahead of nothing")
	}
}

// P20.1 (T3): false, if a rule's place is none's: of the one, of the other one, and of both.
func TestAheadOfNoRule(t *testing.T) {
	for _, saliences := range manySaliences() {
		many := len(saliences)
		for _, place := range []int{-1, many, many + 1, -many - 1, math.MinInt, math.MaxInt, math.MinInt + 1, math.MaxInt - 1, 1 << 32, -1 << 32} {
			for _, other := range []int{-1, many, math.MinInt, math.MaxInt, 0, many - 1, many / 2} {
				for _, s := range []string{"", "x=1 #1", "x=2 #2"} {
					a, b := put(place, tuple(s)), put(other, tuple("x=1 #1"))
					if agenda.Ahead(saliences, a, b) || agenda.Ahead(saliences, b, a) {
						t.Fatalf("%v: %s and %s", saliences, line(a), line(b))
					}
				}
			}
		}
	}
	for i, saliences := range [][]int{{7}, {7, 7}, {0, -1, 1}} {
		for place := range saliences {
			stands(t, saliences, put(place, tuple("#2")), put(place, tuple("#1")))
		}
		if agenda.Ahead(saliences, of("0 #2"), put(i+1, tuple("#1"))) {
			t.Errorf("%v", saliences)
		}
	}
}

// P20.2 (an order): of any two that are unlike just one stands ahead, of those that chapters' words put in order, and of random ones.
func TestJustOne(t *testing.T) {
	m := newMaker(11)
	for range 150 {
		saliences := m.saliences()
		l := m.unlike(len(saliences), 25)
		for i, a := range l {
			for k, b := range l {
				x, y := agenda.Ahead(saliences, a, b), agenda.Ahead(saliences, b, a)
				if i == k && (x || y) || i != k && x == y {
					t.Fatalf("%v, %s and %s: %t and %t", saliences, line(a), line(b), x, y)
				}
				if x != (order(saliences, a, b) < 0) {
					t.Fatalf("%v, %s and %s: got %t", saliences, line(a), line(b), x)
				}
			}
		}
	}
}

// P20.2 (an order): what stands ahead of what stands ahead of one stands ahead of it, of any three in whatever order.
func TestOneOrder(t *testing.T) {
	m, many := newMaker(12), 0
	for range 60 {
		saliences := m.saliences()
		l := m.unlike(len(saliences), 16)
		for _, a := range l {
			for _, b := range l {
				if !agenda.Ahead(saliences, a, b) {
					continue
				}
				for _, c := range l {
					if agenda.Ahead(saliences, b, c) {
						many++
						if !agenda.Ahead(saliences, a, c) {
							t.Fatalf("%v: %s, %s and %s", saliences, line(a), line(b), line(c))
						}
					}
				}
			}
		}
	}
	if many < 10000 {
		t.Errorf("just %d", many)
	}
}

// P20.2 (an order): what stands behind one in List does not stand ahead of it, and List is by Ahead alone.
func TestListIsByAhead(t *testing.T) {
	m := newMaker(13)
	for range 60 {
		saliences := m.saliences()
		a := agenda.New(saliences)
		l := m.unlike(len(saliences), 30)
		for _, c := range l {
			a.Change(c)
		}
		got := a.List()
		if len(got) != len(l) {
			t.Fatalf("got %d", len(got))
		}
		for i := range got {
			for _, behind := range got[i+1:] {
				if !agenda.Ahead(saliences, got[i], behind) {
					t.Fatalf("%v: %s and %s", saliences, line(got[i]), line(behind))
				}
			}
		}
	}
}
