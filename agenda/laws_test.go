package agenda_test

import (
	"fmt"
	"math"
	"runtime"
	"slices"
	"strings"
	"sync"
	"testing"
	"time"

	"tribunal/agenda"
	"tribunal/api"
	"tribunal/bind"
)

// P20.1 to P20.3: any calls, held against another telling behind every one of them; enough of each sort.
func TestAnyCalls(t *testing.T) {
	m, count, most := newMaker(20), map[string]int{}, 0
	for range 300 {
		b := newBoth(t, m.saliences()...)
		for range 80 {
			was := b.a.Held()
			if m.Intn(4) == 0 {
				count[fmt.Sprint("fire ", b.fire())]++
				continue
			}
			c := m.change(b.m)
			done := slices.ContainsFunc(b.m.done(), func(d api.Change) bool { return d.Rule == c.Rule && alike(d.T, c.T) })
			changed := b.change(c)
			count[fmt.Sprint("add ", c.Add, ", done ", done, ", ", changed, " ", b.a.Held()-was)]++
			most = max(most, len(b.a.List()))
		}
	}
	sorts := []string{"fire true", "fire false", "add true, done false, true 1", "add true, done false, false 0", "add true, done true, false 0", "add false, done false, true -1", "add false, done false, false 0", "add false, done true, true -1"}
	for _, sort := range sorts {
		if count[sort] < 400 {
			t.Errorf("%s: just %d times", sort, count[sort])
		}
	}
	if len(count) != len(sorts) || most < 15 {
		t.Errorf("%v, %d", count, most)
	}
}

// P20.1: no rules: nothing ever holds.
func TestAnyCallsOfNoRules(t *testing.T) {
	m, b := newMaker(21), newBoth(t)
	for range 300 {
		m.step(b)
		b.tells(0)
	}
}

// P20.1 (T2): Fire takes the first one of List away: no other one, and no other one's place changes; Held stays.
func TestFireIsOfTheFirst(t *testing.T) {
	m := newMaker(22)
	for range 60 {
		saliences := m.saliences()
		a := agenda.New(saliences)
		for _, c := range m.unlike(len(saliences), 30) {
			a.Change(c)
		}
		want := ownChanges(a.List())
		for i := range want {
			if next, is := a.Next(); !is || !alikeChange(next, want[i]) {
				t.Fatalf("%d: got %s, %t, want %s", i, line(next), is, line(want[i]))
			}
			if !a.Fire() || !alikeChanges(a.List(), want[i+1:]) || a.Held() != 30 {
				t.Fatalf("%d: got %s, want %s", i, brief(lines(a.List())), brief(lines(want[i+1:])))
			}
		}
		if a.Fire() || a.Held() != 30 {
			t.Fatalf("got %s, %d", brief(lines(a.List())), a.Held())
		}
	}
}

// P20.3 (once): of any calls, what was done is not told, and not done, again, unless it held no more between: told by texts, without the model.
func TestOnce(t *testing.T) {
	m, fired, again := newMaker(23), 0, 0
	for range 300 {
		saliences := m.saliences()
		a, w := agenda.New(saliences), newModel(saliences)
		was := map[string]int{} // 1: it was done, and held ever since; 2: it was done, and held no more
		for range 100 {
			for _, c := range a.List() {
				if was[line(c)] == 1 {
					t.Fatalf("%s is told again", line(c))
				}
			}
			if next, is := a.Next(); is && m.Intn(3) == 0 {
				if was[line(next)] == 2 {
					again++
				}
				fired++
				was[line(next)] = 1
				a.Fire()
				w.fire()
				continue
			}
			c := m.change(w)
			w.change(c)
			if a.Change(c) && !c.Add && was[line(api.Change{Add: true, Rule: c.Rule, T: c.T})] == 1 {
				was[line(api.Change{Add: true, Rule: c.Rule, T: c.T})] = 2
			}
		}
	}
	if fired < 2000 || again < 100 {
		t.Errorf("just %d and %d", fired, again)
	}
}

// P20.1 to P20.3: hundreds of tuples of some rules come, are done, go and come again, in unlike orders.
func TestHundreds(t *testing.T) {
	m := newMaker(24)
	saliences := []int{0, 3, 0, -3, math.MaxInt, math.MinInt}
	a := agenda.New(saliences)
	var all []api.Change
	for i := range 600 {
		all = append(all, put(i%6, tuple(fmt.Sprintf("x=%d #%d #%d", i, 1+i%50, 1+i%7))))
	}
	want := ownChanges(all)
	slices.SortFunc(want, func(x, y api.Change) int { return order(saliences, x, y) })
	for round := range 3 {
		for _, i := range m.Perm(len(all)) {
			if !a.Change(all[i]) || a.Change(all[i]) {
				t.Fatalf("%s", line(all[i]))
			}
		}
		if !alikeChanges(a.List(), want) || a.Held() != 600 {
			t.Fatalf("got %s", brief(lines(a.List())))
		}
		for i := range 200 * round {
			if next, is := a.Next(); !is || !alikeChange(next, want[i]) || !a.Fire() {
				t.Fatalf("%d: got %s", i, line(next))
			}
		}
		if !alikeChanges(a.List(), want[200*round:]) || a.Held() != 600 {
			t.Fatalf("got %s", brief(lines(a.List())))
		}
		for _, i := range m.Perm(len(all)) {
			c := drop(all[i].Rule, all[i].T)
			if !a.Change(c) || a.Change(c) {
				t.Fatalf("%s", line(c))
			}
		}
		if len(a.List()) != 0 || a.Held() != 0 || a.Fire() {
			t.Fatalf("got %s", brief(lines(a.List())))
		}
	}
}

// P20.1 (T2): hundreds of one rule, of one salience, and of one fact.
func TestHundredsOfOne(t *testing.T) {
	m := newMaker(25)
	for _, sort := range []struct {
		saliences []int
		rule      func(i int) int
		tuple     string
	}{
		{[]int{7}, func(int) int { return 0 }, "x=1 #%d"},
		{make([]int, 300), func(i int) int { return 299 - i }, "x=1 #%d"},
		{[]int{7, 7}, func(i int) int { return i % 2 }, "x=%d #1"},
		{[]int{7}, func(int) int { return 0 }, "x=%d"},
		{[]int{7}, func(int) int { return 0 }, "x%d=1 #1"},
	} {
		b := newBoth(t, sort.saliences...)
		for _, i := range m.Perm(300) {
			c := put(sort.rule(i), tuple(fmt.Sprintf(sort.tuple, i+1)))
			if !b.a.Change(c) || !b.m.change(c) {
				t.Fatalf("%s", line(c))
			}
		}
		b.check()
		for range 100 {
			b.a.Fire()
		}
		for range 100 {
			b.m.fire()
		}
		b.check()
	}
}

// passes is calls that come to nothing: others than those come, each is done where it is next, and goes.
func (m maker) passes(b *both, those []api.Change) {
	b.t.Helper()
	for range m.Intn(4) {
		c := put(m.Intn(len(b.m.saliences)), m.tuple())
		if slices.ContainsFunc(those, func(x api.Change) bool { return x.Rule == c.Rule && alike(x.T, c.T) }) || !b.change(c) {
			continue
		}
		if next, is := b.a.Next(); is && next.Rule == c.Rule && alike(next.T, c.T) {
			b.fire()
		}
		b.changes(drop(c.Rule, c.T), true)
	}
}

// doneOf has just those be done: one by one, while no other one is there.
func (b *both) doneOf(l []api.Change) {
	b.t.Helper()
	for _, c := range l {
		b.changes(c, true)
		for b.fire() {
			continue
		}
	}
}

// P20.1 (T2), P3: two agendas of the same that holds, and of the same that was done, tell the same, whatever the order in which these came, and whatever came and went between.
func TestSameThatHolds(t *testing.T) {
	m := newMaker(26)
	for range 80 {
		saliences := m.saliences()
		l := m.unlike(len(saliences), 24)
		done, open := l[:8], l[8:]
		one, other := newBoth(t, saliences...), newBoth(t, saliences...)
		one.doneOf(done)
		for _, c := range open {
			one.changes(c, true)
		}
		turned := ownChanges(done)
		m.Shuffle(len(turned), func(i, k int) { turned[i], turned[k] = turned[k], turned[i] })
		m.passes(other, l)
		other.doneOf(turned)
		for _, i := range m.Perm(len(open)) {
			m.passes(other, l)
			other.changes(open[i], true)
			if m.Intn(3) == 0 {
				other.changes(drop(open[i].Rule, open[i].T), true)
				m.passes(other, l)
				other.changes(open[i], true)
			}
		}
		for {
			if p, q := one.a.List(), other.a.List(); !alikeChanges(p, q) || one.a.Held() != other.a.Held() {
				t.Fatalf("got %s and %s", brief(lines(p)), brief(lines(q)))
			}
			if p, q := one.fire(), other.fire(); p != q {
				t.Fatalf("got %t and %t", p, q)
			} else if !p {
				break
			}
		}
		for _, i := range m.Perm(len(l)) {
			for _, add := range []bool{true, false, false} {
				c := api.Change{Add: add, Rule: l[i].Rule, T: l[i].T}
				if p, q := one.change(c), other.change(c); p != q {
					t.Fatalf("got %t and %t", p, q)
				}
			}
		}
	}
}

// P3: agendas know nothing of each other, also those of the same saliences.
func TestAlone(t *testing.T) {
	m := newMaker(27)
	for range 30 {
		saliences := m.saliences()
		l := []*both{newBoth(t, saliences...), newBoth(t, saliences...), newBoth(t, m.saliences()...)}
		for range 60 {
			m.step(pick(m, l...))
			for _, b := range l {
				b.check()
			}
		}
		newBoth(t, saliences...).tells(0)
	}
}

// rounds is what an agenda tells of some calls, that are the same for the same seed.
func rounds(seed int64) []string {
	m := newMaker(seed)
	saliences := m.saliences()
	a, w := agenda.New(saliences), newModel(saliences)
	var l []string
	for range 80 {
		c := m.change(w)
		w.change(c)
		l = append(l, fmt.Sprint(a.Change(c), a.Held(), m.Intn(5) == 0 && a.Fire()))
		next, is := a.Next()
		l = append(l, fmt.Sprint(line(next), is))
		l = append(l, lines(a.List())...)
	}
	return l
}

// P3: the same calls on another agenda tell the same.
func TestSameAgain(t *testing.T) {
	want := rounds(28)
	for i := range 8 {
		if !slices.Equal(rounds(28), want) {
			t.Fatalf("the %dth time another thing is told", i)
		}
	}
}

// wrong is tuples that are not right: names, values and facts' numbers that may not be.
func wrong() []api.Tuple {
	var l []api.Tuple
	for _, s := range []string{"10", "1x", "9", "01", "2/2", "1", "", "9x", "0x", "-0", "1/0", "\xff", "\x00", strings.Repeat("9", 5000)} {
		for _, kind := range []int{-1, 0, 1, 2, 3, 4, 5, 6, 7, math.MinInt, math.MaxInt} {
			l = append(l, bound("x", value(kind, s), 1))
		}
		l = append(l, bound(s, num("1"), 1), bound("x"+s, num("1")))
	}
	for _, id := range []int{0, -1, math.MinInt, math.MaxInt, 1 << 40} {
		l = append(l, api.Tuple{Ids: []int{id}}, api.Tuple{Ids: []int{id, 1, id}}, api.Tuple{Ids: []int{1, id}})
	}
	l = append(l, tuple("x=1 x=1"), tuple("x=1 x=2"), tuple("y=1 x=1"), api.Tuple{Binds: []api.Bind{{}, {}}})
	return append(l, l...)
}

// P1: tuples that are not right have each call end, without a panic, and what is told of them is one thing: Next and Fire go along List.
func TestWrong(t *testing.T) {
	m := newMaker(29)
	saliences := []int{1, 0, 1}
	for range 30 {
		a := agenda.New(saliences)
		l := wrong()
		for _, i := range m.Perm(len(l)) {
			was, c := a.Held(), api.Change{Add: m.Intn(5) > 0, Rule: m.Intn(4), T: l[i]}
			changed := a.Change(c)
			if by := a.Held() - was; changed != (by != 0) || by < -1 || by > 1 || by > 0 && !c.Add || by < 0 && c.Add {
				t.Fatalf("%s: got %t, and %d more", brief(c), changed, by)
			}
			agenda.Ahead(saliences, c, put(m.Intn(4)-1, pick(m, l...)))
			if m.Intn(10) == 0 {
				a.Fire()
			}
		}
		want := ownChanges(a.List())
		for i := range want {
			if next, is := a.Next(); !is || !alikeChange(next, want[i]) || !alikeChanges(a.List(), want[i:]) || !a.Fire() {
				t.Fatalf("%d: got %s", i, line(next))
			}
		}
		if a.Fire() {
			t.Fatal("there was something to be done")
		}
	}
}

// P3: what is told of tuples that are not right is the same each time, too.
func TestWrongAgain(t *testing.T) {
	var want []string
	for i := range 20 {
		a := agenda.New([]int{0, 0})
		for k, one := range wrong() {
			a.Change(put(k%2, one))
			if k%7 == 0 {
				a.Fire()
			}
		}
		got := lines(a.List())
		if i == 0 {
			want = got
		}
		if !slices.Equal(got, want) {
			t.Fatalf("the %dth time another thing is told", i)
		}
	}
}

// P3: agendas beside one another, each in a goroutine of its own, tell what each tells alone; so do List, Next, Held and Ahead of one, asked by many at once.
func TestBeside(t *testing.T) {
	saliences := []int{0, 1, 0}
	shared := agenda.New(saliences)
	for _, c := range newMaker(40).unlike(3, 60) {
		shared.Change(c)
	}
	for range 10 {
		shared.Fire()
	}
	want := shared.List()
	var all sync.WaitGroup
	for i := range int64(8) {
		alone := rounds(i)
		all.Go(func() {
			if !slices.Equal(rounds(i), alone) {
				t.Error("another thing is told")
			}
			for range 20 {
				next, is := shared.Next()
				if !alikeChanges(shared.List(), want) || shared.Held() != 60 || !is || !alikeChange(next, want[0]) || !agenda.Ahead(saliences, want[0], want[1]) {
					t.Error("another thing is told")
				}
			}
		})
	}
	all.Wait()
}

// P1: very many tuples, and very long ones, are done at once.
func TestVeryMany(t *testing.T) {
	begin := time.Now()
	const many = 100000
	a := agenda.New([]int{0, 1})
	for i := range many {
		if c := put(i%2, tuple(fmt.Sprintf("x=%d #%d", i%7, i*7919%many+1))); !a.Change(c) || a.Change(c) {
			t.Fatalf("%d", i)
		}
	}
	l := a.List()
	if len(l) != many || a.Held() != many || l[0].Rule != 1 || l[many-1].Rule != 0 {
		t.Fatalf("got %d", len(l))
	}
	for i, c := range l {
		if i%3 == 1 {
			if !a.Change(drop(c.Rule, c.T)) {
				t.Fatalf("%d", i)
			}
		} else if next, is := a.Next(); !is || !alikeChange(next, c) || !a.Fire() {
			t.Fatalf("%d: got %s, want %s", i, line(next), line(c))
		}
	}
	if a.Fire() || a.Held() != many-many/3 {
		t.Fatalf("got %d", a.Held())
	}
	var long api.Tuple
	for i := range many {
		long.Binds = append(long.Binds, api.Bind{Name: fmt.Sprintf("a%08d", i), V: num("1")})
		long.Ids = append(long.Ids, i+1)
	}
	longer := ownTuple(long)
	longer.Ids = append(longer.Ids, 1)
	a.Change(put(1, long))
	a.Change(put(1, longer))
	if next, is := a.Next(); !is || !alike(next.T, longer) || !a.Fire() || !agenda.Ahead([]int{0, 1}, next, put(1, long)) {
		t.Fatal("the longer one is not first")
	}
	if took := time.Since(begin); took > time.Minute {
		t.Errorf("%v", took)
	}
}

// heap is how many bytes are in use.
func heap() int64 {
	runtime.GC()
	var m runtime.MemStats
	runtime.ReadMemStats(&m)
	return int64(m.HeapAlloc)
}

// P3, P20.1 (T5): what is gone is not kept, nor what was told: by what comes and goes the heap does not grow, and once all is gone as much is kept as at first.
func TestNothingKept(t *testing.T) {
	a := agenda.New([]int{0, 1})
	come := func(many, fires int) {
		for _, add := range []bool{true, false} {
			for i := range many {
				// The texts are made anew each time, so that one that is kept takes room of its own.
				a.Change(api.Change{Add: add, Rule: i % 2, T: bound("x", text(fmt.Sprintf("%099d", i)), i+1)})
			}
			for range fires {
				a.Fire()
			}
		}
	}
	come(1000, 500)
	was := heap()
	come(60000, 30000)
	if more := heap() - was; more > 200000 {
		t.Errorf("%d bytes more", more)
	}
	for range 30000 {
		come(1, 1)
		a.List()
		a.Next()
	}
	if more := heap() - was; more > 200000 {
		t.Errorf("%d bytes more", more)
	}
	if a.Held() != 0 {
		t.Errorf("%d are held", a.Held())
	}
	runtime.KeepAlive(a)
}

// P3: while others stay nothing is kept of what goes, and of what was done no more than that it was: no lists of it, which would take 6 million bytes.
func TestDoneIsNotKept(t *testing.T) {
	for _, c := range []struct {
		done bool
		most int64
	}{{true, 2000000}, {false, 100000}} {
		a := agenda.New([]int{0, 1})
		a.Change(of("0 "))
		was := heap()
		long := func(i int) api.Tuple { return api.Tuple{Ids: append(slices.Repeat([]int{1}, 2000), i)} }
		for i := range 200 {
			a.Change(put(1, long(i)))
		}
		for i := range 200 {
			if c.done {
				a.Fire()
			} else {
				a.Change(drop(1, long(i)))
			}
		}
		if more := heap() - was; more > c.most {
			t.Errorf("done %t: %d bytes more", c.done, more)
		}
		if l := lines(a.List()); !slices.Equal(l, []string{"0"}) {
			t.Errorf("got %s", brief(l))
		}
		runtime.KeepAlive(a)
	}
}

// P3: what is empty is not kept either: a list of none, with very much spare room.
func TestSpareRoomIsNotKept(t *testing.T) {
	var l []*agenda.Agenda
	was := heap()
	for i := range 100 {
		a := agenda.New(append(make([]int, 0, 10000), 1))
		a.Change(put(0, api.Tuple{Binds: make([]api.Bind, 0, 1000), Ids: make([]int, 0, 10000)}))
		a.Change(put(0, api.Tuple{Binds: make([]api.Bind, 0, 1000), Ids: append(make([]int, 0, 10000), i)}))
		l = append(l, a, agenda.New(make([]int, 0, 10000)))
	}
	if more := heap() - was; more > 1000000 {
		t.Errorf("%d bytes more", more)
	}
	runtime.KeepAlive(l)
}

// P1, P20.1 to P20.3: any calls end, without a panic; of right tuples they are as another one tells them.
func FuzzCalls(f *testing.F) {
	f.Add("x", 1, "1", 1, 0, []byte{0, 1, 2, 3, 4, 5, 6, 7, 8, 40, 41, 42, 43, 44, 45})
	f.Add("y", 2, "1 #1", 12, -5, []byte{2, 10, 18, 3, 11, 19, 2, 3, 77, 200, 255})
	f.Add("", 9, "\xff", -1, math.MaxInt, []byte("one, and two, and three of them"))
	f.Add("x=", 6, "1, 2", 0, math.MinInt, []byte{255, 254, 253, 252, 9, 8, 7, 6})
	f.Fuzz(func(t *testing.T, name string, kind int, s string, id, salience int, steps []byte) {
		saliences := []int{0, salience, 0}
		m, b, a := newMaker(int64(len(steps))), newBoth(t, saliences...), agenda.New(saliences)
		strange := bound(name, value(kind, s), id, 1)
		isRight := bind.Right(strange)
		for _, x := range steps[:min(len(steps), 100)] {
			c := api.Change{Add: x&1 == 0, Rule: int(x>>1)%5 - 1, T: strange}
			if x&16 > 0 {
				c.T = m.tuple()
			} else if x&32 > 0 {
				c.T.Ids = c.T.Ids[1:]
			}
			if isRight || x&16 > 0 {
				b.change(c)
			}
			a.Change(c)
			if x&192 == 0 {
				b.fire()
				a.Fire()
			}
			a.List()
			a.Next()
			agenda.Ahead(saliences, c, put(1, strange))
		}
		if isRight && (!alikeChanges(a.List(), b.a.List()) || a.Held() != b.a.Held()) {
			t.Fatalf("got %s, want %s", brief(lines(a.List())), brief(lines(b.a.List())))
		}
	})
}
