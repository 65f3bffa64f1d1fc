package agenda_test

import (
	"math"
	"slices"
	"strconv"
	"testing"

	"tribunal/agenda"
	"tribunal/api"
)

// manySaliences is lists of them: of none, one, many that are alike, and of each end of the integers.
func manySaliences() [][]int {
	return [][]int{nil, {}, {0}, {5}, {-5}, {math.MinInt}, {math.MaxInt}, {0, 0, 0, 0, 0, 0, 0, 0}, slices.Repeat([]int{7}, 100), {1, 0, -1}, {-1000, 1000}, {math.MinInt, math.MaxInt}, {math.MaxInt, 0, math.MinInt}}
}

// P20.1 (T1, T2): a new agenda has nothing to do, and nothing holds, whatever its rules' saliences are.
func TestNew(t *testing.T) {
	for _, saliences := range manySaliences() {
		a := agenda.New(saliences)
		for range 3 {
			if l := a.List(); len(l) != 0 {
				t.Errorf("%v: got %s", saliences, brief(lines(l)))
			}
			if c, is := a.Next(); is || c.Add || c.Rule != 0 || c.T.Binds != nil || c.T.Ids != nil {
				t.Errorf("%v: got %+v, %t", saliences, c, is)
			}
			if a.Fire() {
				t.Errorf("%v: there was something to be done", saliences)
			}
			if n := a.Held(); n != 0 {
				t.Errorf("%v: got %d", saliences, n)
			}
		}
	}
}

// P20.1 (T1): there are as many rules as saliences, from 0 on; of any other place nothing changes.
func TestPlaces(t *testing.T) {
	for _, saliences := range manySaliences() {
		b := newBoth(t, saliences...)
		many := len(saliences)
		for _, place := range []int{-1, many, many + 1, -many - 1, math.MinInt, math.MaxInt, math.MinInt + 1, math.MaxInt - 1, 1 << 32, -1 << 32} {
			for _, s := range []string{"x=1 #1", "", "x=1", "#1"} {
				b.changes(put(place, tuple(s)), false)
				b.changes(drop(place, tuple(s)), false)
				b.changes(put(place, tuple(s)), false)
			}
		}
		b.tells(0)
		for i := range saliences {
			b.changes(put(i, tuple("x=1 #1")), true)
			b.changes(put(many+i, tuple("x=1 #1")), false)
			b.changes(drop(many+i, tuple("x=1 #1")), false)
			b.changes(put(-i-1, tuple("x=1 #1")), false)
			b.changes(drop(-i-1, tuple("x=1 #1")), false)
		}
		b.fire()
		for i := range saliences {
			b.changes(drop(i, tuple("x=1 #1")), true)
		}
		b.tells(0)
	}
}

// P20.1 (T1): what does not hold comes once, be it of no variables, or on no facts.
func TestAdd(t *testing.T) {
	for _, s := range []string{"x=1 #1", "x=1", "#1", "", "x=1 y='a z=true #1 #2 #3", "x=none #999999999", "#1 #1 #1", "x={1} #7"} {
		b := newBoth(t, 3)
		b.yes("+0 " + s)
		want := line(of("0 " + s))
		b.tells(1, want)
		b.no("+0 "+s, "+0 "+s)
		b.tells(1, want)
		b.fires(want)
		b.tells(1)
		b.no("+0 "+s, "+0 "+s)
		b.tells(1)
		b.ends()
	}
}

// P20.1 (T1): lists of none are the same, nil or not.
func TestAddOfNone(t *testing.T) {
	none := []api.Tuple{{}, {Binds: []api.Bind{}}, {Ids: []int{}}, {Binds: []api.Bind{}, Ids: []int{}}}
	for _, first := range none {
		for _, then := range none {
			b := newBoth(t, 0)
			b.changes(put(0, first), true)
			b.changes(put(0, then), false)
			b.changes(drop(0, then), true)
			b.changes(drop(0, first), false)
			b.tells(0)
		}
	}
}

// P20.1 (T1): the same tuple of another rule is another one.
func TestAddOfRules(t *testing.T) {
	b := newBoth(t, 0, 0, 0)
	b.yes("+1 x=1 #1", "+0 x=1 #1", "+2 x=1 #1")
	b.no("+0 x=1 #1", "+1 x=1 #1", "+2 x=1 #1")
	b.tells(3, "0 x=1 #1", "1 x=1 #1", "2 x=1 #1")
	b.fires("0 x=1 #1")
	b.yes("-1 x=1 #1")
	b.no("-1 x=1 #1", "+0 x=1 #1")
	b.tells(2, "2 x=1 #1")
	b.yes("-0 x=1 #1", "+0 x=1 #1")
	b.tells(2, "0 x=1 #1", "2 x=1 #1")
}

// P20.1 (T1): rules and parts whose decimals are near one another are unlike.
func TestAddOfManyRules(t *testing.T) {
	b := newBoth(t, make([]int, 122)...)
	b.yes("+1 #21", "+12 #1", "+121 ", "+1 x=21", "+12 x=1", "+0 x=1 #1", "+0 x=11", "+10 x=1", "+1 ", "+12 ")
	b.no("+1 #21", "+12 #1", "+121 ", "+1 x=21", "+12 x=1", "+0 x=1 #1", "+0 x=11", "+10 x=1", "+1 ", "+12 ")
	b.no("-21 #1", "-112 ", "-2 #1", "-0 ", "-11 x=21")
	b.tells(10, "1 #21", "0 x=1 #1", "12 #1", "0 x=11", "1", "1 x=21", "10 x=1", "12", "12 x=1", "121")
}

// changed is tuples each of which is alike to the first one but for one thing.
func changed() []api.Tuple {
	l := []string{"x=1 y='a #1 #2", "x1=1 y='a #1 #2", "w=1 y='a #1 #2", "x=2 y='a #1 #2", "x=10 y='a #1 #2", "x=-1 y='a #1 #2", "x=1/2 y='a #1 #2", `x="1" y='a #1 #2`, "x=#1 y='a #1 #2", "x={1} y='a #1 #2", "x=none y='a #1 #2", "x=true y='a #1 #2", "x='true y='a #1 #2", "x='none y='a #1 #2", `x=1 y="a" #1 #2`, "x=1 y={'a} #1 #2", "x=1 y='b #1 #2", "x=1 #1 #2", "y='a #1 #2", "#1 #2", "x=1 y='a z=1 #1 #2", "a=1 x=1 y='a #1 #2", "x=1 y='a #2 #1", "x=1 y='a #1 #3", "x=1 y='a #3 #2", "x=1 y='a #1", "x=1 y='a #2", "x=1 y='a", "x=1 y='a #12", "x=1 y='a #1 #2 #2", "x=1 y='a #1 #2 #1", "x=1 y='a #1 #1 #2", "x=1 y='a #1 #2 #3", "x=1 y='a #10 #2", "x=1 y='a #1 #20", ""}
	var all []api.Tuple
	for _, s := range l {
		all = append(all, tuple(s))
	}
	return all
}

// P20.1 (T1): tuples alike but for one thing are unlike: each holds, and goes, alone.
func TestAddOfNear(t *testing.T) {
	var l []api.Tuple
	for _, v := range near() {
		l = append(l, bound("x", v), bound("x", v, 1))
	}
	for _, all := range [][]api.Tuple{changed(), l} {
		b := newBoth(t, 0)
		for _, one := range all {
			b.changes(drop(0, one), false)
			b.changes(put(0, one), true)
			b.changes(put(0, one), false)
		}
		for i, one := range all {
			b.changes(drop(0, one), true)
			b.changes(drop(0, one), false)
			if n := b.a.Held(); n != len(all)-i-1 {
				t.Fatalf("%d: got %d", i, n)
			}
		}
	}
}

// P20.1 (T1): the same facts in another order are another tuple, of its own.
func TestAddOfOrders(t *testing.T) {
	b := newBoth(t, 0)
	b.yes("+0 #2 #1", "+0 #1 #2")
	b.tells(2, "0 #1 #2", "0 #2 #1")
	b.fires("0 #1 #2")
	b.no("+0 #1 #2")
	b.tells(2, "0 #2 #1")
	b.yes("-0 #1 #2")
	b.tells(1, "0 #2 #1")
	b.fires("0 #2 #1")
	b.yes("+0 #1 #2")
	b.tells(2, "0 #1 #2")
	b.yes("-0 #2 #1")
	b.tells(1, "0 #1 #2")
}

// P20.1 (T1): what does not hold can't go.
func TestDropOfNone(t *testing.T) {
	b := newBoth(t, 0, 1)
	for _, one := range changed() {
		b.changes(drop(0, one), false)
		b.changes(drop(1, one), false)
	}
	b.yes("+0 x=1 #1")
	b.no("-1 x=1 #1", "-0 x=2 #1", "-0 x=1 #2", "-0 x=1", "-0 #1", "-0 ", "-0 x=1 #1 #1")
	b.tells(1, "0 x=1 #1")
	b.fires("0 x=1 #1")
	b.no("-1 x=1 #1", "-0 x=2 #1", "-0 x=1 #2", "-0 x=1", "-0 #1", "-0 ", "-0 x=1 #1 #1")
	b.tells(1)
}

// P20.1 (T1): what goes may be the first, one between, or the last one of List; it can't go twice, and may come again.
func TestDrop(t *testing.T) {
	all := []string{"0 x=9 #9", "0 x=8 #8", "0 x=7 #7", "0 x=6 #6", "0 x=5 #5", "0 x=4 #4", "0 x=3 #3", "0 x=2 #2", "0 x=1 #1"}
	for i, one := range all {
		for _, turned := range []bool{false, true} {
			b := newBoth(t, 0)
			for k := range all {
				if turned {
					k = len(all) - k - 1
				}
				b.yes("+" + all[k])
			}
			b.tells(9, all...)
			b.yes("-" + one)
			b.no("-" + one)
			b.tells(8, slices.Delete(slices.Clone(all), i, i+1)...)
			b.yes("+" + one)
			b.no("+" + one)
			b.tells(9, all...)
			for range i {
				b.fire()
			}
			b.yes("-" + one)
			b.tells(8, all[i+1:]...)
			b.fires(all[i+1:]...)
			b.ends()
			b.yes("+" + one)
			b.tells(9, one)
		}
	}
}

// P20.1 (T1), P20.3: what goes although it was done holds no more; if it comes again it is to be done again.
func TestDropOfDone(t *testing.T) {
	b := newBoth(t, 0)
	b.yes("+0 #1", "+0 #2", "+0 #3")
	b.fires("0 #3", "0 #2")
	b.tells(3, "0 #1")
	b.yes("-0 #3")
	b.no("-0 #3")
	b.tells(2, "0 #1")
	b.yes("+0 #3")
	b.no("+0 #3", "+0 #2")
	b.tells(3, "0 #3", "0 #1")
	b.fires("0 #3", "0 #1")
	b.yes("-0 #1", "-0 #2", "-0 #3")
	b.tells(0)
	b.ends()
	b.yes("+0 #2", "+0 #1", "+0 #3")
	b.fires("0 #3", "0 #2", "0 #1")
	b.ends()
}

// P20.1 (T1, T2): what is told is an Add, whatever calls it came by.
func TestToldAdds(t *testing.T) {
	m := newMaker(1)
	for range 20 {
		b := newBoth(t, m.saliences()...)
		for range 40 {
			m.step(b)
			if c, is := b.a.Next(); c.Add != is {
				t.Fatalf("got %s, %t", line(c), is)
			}
			for _, c := range b.a.List() {
				if !c.Add {
					t.Fatalf("got %s", line(c))
				}
			}
		}
	}
}

// P20.1 (T2): List by salience, by facts, by places and by tuples, in whatever order they come.
func TestList(t *testing.T) {
	m := newMaker(2)
	for _, c := range []struct {
		saliences []int
		want      []string
	}{
		{[]int{0}, []string{"0 x=1 #1"}},
		{[]int{0}, []string{"0 #9 #2", "0 #9 #1"}},
		{[]int{0}, []string{"0 #2 #9", "0 #1 #9"}},
		{[]int{0}, []string{"0 #1", "0"}},
		{[]int{1, 2}, []string{"1 #1", "0 #2"}},
		{[]int{2, 1}, []string{"0 #1", "1 #2"}},
		{[]int{1, 1}, []string{"1 #2", "0 #1"}},
		{[]int{1, 1}, []string{"0 x=9 #2", "1 x=1 #2"}},
		{[]int{1, 1}, []string{"0 #2 #1", "1 #1 #2"}},
		{[]int{0}, []string{"0 x=2 #1", "0 x=10 #1", `0 x="10" #1`, `0 x="2" #1`, "0 x='a #1"}},
		{[]int{0, 0, 0}, []string{"2 #3", "1 #2", "0 #1", "0", "1", "2"}},
		{[]int{-1, 1, 0}, []string{"1 #1", "1", "2 #3", "2", "0 #9", "0 #2 #2", "0 #2", "0"}},
		{[]int{math.MinInt, 0, math.MaxInt, 0}, []string{"2", "1 #4 #5", "3 #5 #3", "1 #2", "1", "3", "0 #9"}},
	} {
		for range 30 {
			b := newBoth(t, c.saliences...)
			for _, i := range m.Perm(len(c.want)) {
				b.yes("+" + c.want[i])
			}
			b.tells(len(c.want), c.want...)
			b.fires(c.want...)
			b.ends()
			b.tells(len(c.want))
		}
	}
}

// P20.1 (T2): List and Next are asked as often as may be, and change nothing.
func TestAskedAgain(t *testing.T) {
	a := agenda.New([]int{0, 1})
	for _, s := range []string{"+0 x=1 #3", "+1 #1", "+1 #2", "+0 x=1 #4"} {
		a.Change(change(s))
	}
	want := []string{"1 #2", "1 #1", "0 x=1 #4", "0 x=1 #3"}
	for len(want) > 0 {
		for range 10 {
			if got := lines(a.List()); !slices.Equal(got, want) {
				t.Fatalf("got %v, want %v", got, want)
			}
			if c, is := a.Next(); !is || line(c) != want[0] {
				t.Fatalf("got %s, %t, want %s", line(c), is, want[0])
			}
			if n := a.Held(); n != 4 {
				t.Fatalf("got %d", n)
			}
		}
		if !a.Fire() {
			t.Fatal("nothing was done")
		}
		want = want[1:]
	}
}

// P20.1 (T2): what comes between two Fires stands at its place, ahead of, between and behind the others.
func TestBetweenFires(t *testing.T) {
	b := newBoth(t, 0, 5)
	b.yes("+0 #2", "+0 #4", "+0 #6")
	b.fires("0 #6")
	b.yes("+0 #5", "+0 #3", "+0 #1")
	b.tells(6, "0 #5", "0 #4", "0 #3", "0 #2", "0 #1")
	b.fires("0 #5")
	b.yes("+0 #7")
	b.fires("0 #7", "0 #4")
	b.yes("+1 ", "+0 ")
	b.fires("1", "0 #3")
	b.yes("-0 #2")
	b.tells(8, "0 #1", "0")
	b.yes("+0 #2", "-0 #6", "+0 #6")
	b.no("+0 #3", "+0 #4", "+0 #5", "+0 #7", "+1 ")
	b.fires("0 #6", "0 #2", "0 #1", "0")
	b.ends()
	b.tells(9)
}

// P20.1 (T2): what would have been next goes: what stood behind it is next.
func TestNextGoes(t *testing.T) {
	b := newBoth(t, 0)
	var want []string
	for i := range 20 {
		s := "0 #" + strconv.Itoa(20-i)
		want = append(want, s)
		b.yes("+" + s)
	}
	for len(want) > 1 {
		b.yes("-" + want[0])
		want = want[1:]
		if len(want)%2 == 0 {
			b.fires(want[0])
			b.no("+" + want[0])
			b.yes("-" + want[0])
			want = want[1:]
		}
		b.tells(len(want), want...)
	}
}

// P20.1 (T2): one that goes and comes again stands at its place, be it that of the first one, one between, or the last one.
func TestComeAgain(t *testing.T) {
	all := []string{"0 x=1 #5", "0 x=1 #4", "0 x=2 #4", "0 x=1 #3", "0 x=1"}
	for _, one := range all {
		b := newBoth(t, 0)
		for _, s := range all {
			b.yes("+" + s)
		}
		for range 3 {
			b.yes("-"+one, "+"+one)
			b.tells(5, all...)
		}
		b.fires(all...)
		b.yes("-"+one, "+"+one)
		b.tells(5, one)
		b.fires(one)
		b.ends()
	}
}

// P20.1 (T2): Held is one more by an Add that is true, one less by another change that is true, and else the same.
func TestHeld(t *testing.T) {
	m := newMaker(3)
	for range 40 {
		a := agenda.New([]int{0, 1})
		w := newModel([]int{0, 1})
		for range 60 {
			was := a.Held()
			want := was
			if m.Intn(4) == 0 {
				a.Fire()
				w.fire()
			} else {
				c := m.change(w)
				w.change(c)
				if a.Change(c) && c.Add {
					want++
				} else if len(w.l) < was {
					want--
				}
			}
			if n := a.Held(); n != want || n != len(w.l) {
				t.Fatalf("got %d, want %d", n, want)
			}
			a.List()
			a.Next()
			if n := a.Held(); n != want {
				t.Fatalf("got %d, want %d", n, want)
			}
		}
	}
}

// P20.1 (T2), P20.3: all that came goes, done or not: nothing holds, and nothing is to be done; all may come again.
func TestAllGone(t *testing.T) {
	m := newMaker(4)
	for round := range 20 {
		b := newBoth(t, 0, 1, 0)
		l := m.unlike(3, 20)
		for range 2 {
			for _, c := range l {
				b.changes(c, true)
			}
			for range round {
				b.fire()
			}
			for _, i := range m.Perm(len(l)) {
				b.changes(drop(l[i].Rule, l[i].T), true)
			}
			b.tells(0)
			b.ends()
		}
	}
}
