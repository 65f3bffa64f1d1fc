package group_test

import (
	"fmt"
	"runtime"
	"slices"
	"sync"
	"testing"
	"time"

	"tribunal/api"
	"tribunal/bind"
	"tribunal/fold"
	"tribunal/group"
	"tribunal/join"
)

// P18.1 to P18.4: any calls, of each kind and shape, held against another telling; enough of each sort.
func TestAnyCalls(t *testing.T) {
	m, count := newMaker(10), map[string]int{}
	for range 6 {
		eachShape(t, func(b *both) {
			for range 80 {
				was := b.n.Held()
				got := m.step(b)
				count[sort(b.n.Held()-was, got)]++
			}
		})
	}
	for held, sorts := range map[int][]string{0: {""}, 1: {"", "+", "-+"}, -1: {"", "-", "-+"}} {
		for _, signs := range sorts {
			if one := fmt.Sprintf("%d %s", held, signs); count[one] < 1000 {
				t.Errorf("%s: just %d times", one, count[one])
			}
		}
	}
	if len(count) != 7 {
		t.Errorf("%v", count)
	}
}

// sort is how many more are held by a call, and the signs of what it told.
func sort(held int, deltas []api.Delta) string {
	s := fmt.Sprintf("%d ", held)
	for _, line := range told(deltas) {
		s += line[:1]
	}
	return s
}

// byWords is what a node has to be like, by the words of the chapter: of a memory of join, bind and fold.
type byWords struct {
	shape
	kind   int
	memory *join.Memory
}

// key is a tuple's key; false: it does not count.
func (w byWords) key(t api.Tuple) (api.Tuple, bool) {
	v, counts := of(t, w.arg)
	var key api.Tuple
	for _, name := range w.by {
		one, has := of(t, name)
		counts = counts && has
		key, _ = bind.With(key, name, one)
	}
	return key, counts && (!isOfNums(w.kind) || v.Kind == api.Num)
}

// of is what comes of the group of a key, by fold's own; false: it is not there.
func (w byWords) of(key api.Tuple) (api.Tuple, bool) {
	f := fold.New(w.kind)
	for _, t := range w.memory.All() {
		if own, counts := w.key(t); counts && bind.Cmp(own, key) == 0 {
			v, _ := of(t, w.arg)
			f.Add(v)
		}
	}
	comes, _ := bind.With(key, w.name, f.Result())
	return comes, f.Many() > 0 || len(w.by) == 0
}

func (w byWords) take(d api.Delta) []api.Delta {
	key, counts := w.key(d.T)
	ahead, was := w.of(key)
	if !w.memory.Take(d) || !counts {
		return nil
	}
	behind, is := w.of(key)
	var l []api.Delta
	if was {
		l = append(l, drop(ahead))
	}
	if is {
		l = append(l, put(behind))
	}
	if was && is && bind.Cmp(ahead, behind) == 0 {
		return nil
	}
	return l
}

func (w byWords) all() []api.Tuple {
	l := map[string]api.Tuple{}
	if len(w.by) == 0 {
		one, _ := w.of(api.Tuple{})
		l[""] = one
	}
	for _, t := range w.memory.All() {
		if key, counts := w.key(t); counts {
			l[bind.Text(key)], _ = w.of(key)
		}
	}
	var all []api.Tuple
	for _, one := range l {
		all = append(all, one)
	}
	return bind.Sort(all)
}

// P18.1 (R1, R2), P18.4 (a fold): behind each call of a long row of them each result is fold's own of the values of its group, whatever came and went, and in whatever order.
func TestByWords(t *testing.T) {
	m := newMaker(11)
	for _, name := range names() {
		for _, s := range shapes() {
			b, w := node(t, name, s.name, s.arg, s.by...), byWords{s, kind(name), join.NewMemory()}
			for range 80 {
				d := m.delta(b.m.row.l)
				if got, want := b.take(d), w.take(d); !alikeDeltas(got, want) {
					t.Fatalf("%s: got %s, want %s", brief(told([]api.Delta{d})), brief(told(got)), brief(told(want)))
				}
				if got, want := b.n.All(), w.all(); !alikeRows(got, want) || b.n.Groups() != len(want) || b.n.Held() != len(w.memory.All()) {
					t.Fatalf("got %s, %d, %d, want %s", brief(lines(got)), b.n.Groups(), b.n.Held(), brief(lines(want)))
				}
			}
		}
	}
}

// P18.2 (by deltas): All is what all deltas so far make of what a new node tells, told by the deltas alone.
func TestByDeltas(t *testing.T) {
	m, most := newMaker(12), 0
	for i := 1; i <= 6; i++ {
		for _, s := range shapes() {
			n := group.New(i, s.name, s.arg, s.by)
			l := n.All()
			var there []api.Tuple
			for range 100 {
				d := m.delta(nil)
				if len(there) > 0 && m.Intn(5) < 2 {
					d = drop(pick(m, there...))
				}
				there = append(there, d.T)
				var is bool
				got := n.Take(d)
				if l, is = by(l, got); !is || !alikeRows(n.All(), l) || n.Groups() != len(l) {
					t.Fatalf("behind %s: got %s, want %s", brief(told(got)), brief(lines(n.All())), brief(lines(l)))
				}
				most = max(most, len(l))
			}
		}
	}
	if most < 15 {
		t.Errorf("just %d", most)
	}
}

// P18.2, P18.3 (one each): the same of many groups of many tuples, that all come, and all go: there is just one result for each key that is had.
func TestByDeltasOfMany(t *testing.T) {
	m := newMaker(13)
	eachKind(t, func(t *testing.T, name string) {
		n := group.New(kind(name), "s", "x", []string{"k", "l"})
		var l []api.Tuple
		take := func(add bool, all []api.Tuple) {
			t.Helper()
			for i, k := range m.Perm(len(all)) {
				var is bool
				got := n.Take(api.Delta{Add: add, T: all[k]})
				if l, is = by(l, got); !is || i%50 == 0 && !alikeRows(n.All(), l) {
					t.Fatalf("%d: %s, %s", i, brief(told(got)), brief(lines(l)))
				}
			}
		}
		var all []api.Tuple
		for i := range 900 {
			all = append(all, tuple(fmt.Sprintf("k=%d l=%d x=%d/2 #%d", i%10, i%9, 2*(i%7)+1, i+1)))
		}
		for range 2 {
			take(true, all)
			if keys := keysOf(n.All()); len(keys) != 90 || len(l) != 90 || n.Groups() != 90 || n.Held() != 900 || !alikeRows(n.All(), l) {
				t.Fatalf("got %d keys, %d, %d groups, %d", len(keys), len(l), n.Groups(), n.Held())
			}
			take(false, all)
			if len(n.All()) > 0 || len(l) > 0 || n.Groups() != 0 || n.Held() != 0 {
				t.Fatalf("got %s", brief(lines(n.All())))
			}
		}
	})
}

// keysOf is the unlike keys of results, by k and l.
func keysOf(l []api.Tuple) []string {
	var keys []string
	for _, t := range l {
		one, _ := of(t, "k")
		other, _ := of(t, "l")
		keys = append(keys, written(one)+" "+written(other))
	}
	slices.Sort(keys)
	return slices.Compact(keys)
}

// P18.3 (one each): of any tuples there is just one result for each key that is had; by none there is just one.
func TestOneEach(t *testing.T) {
	m := newMaker(19)
	for _, name := range names() {
		for _, by := range [][]string{nil, {"k"}, {"l", "k"}} {
			b := node(t, name, "s", "x", by...)
			for range 200 {
				m.step(b)
				var keys []string
				for _, one := range b.m.row.l {
					if _, key, counts := b.m.counts(one); counts {
						keys = append(keys, line(key))
					}
				}
				slices.Sort(keys)
				keys = slices.Compact(keys)
				if by == nil {
					keys = []string{""}
				}
				var have []string
				for _, one := range b.n.All() {
					one.Binds = slices.DeleteFunc(one.Binds, func(b api.Bind) bool { return b.Name == "s" })
					have = append(have, line(one))
				}
				slices.Sort(have)
				if !slices.Equal(have, keys) || b.n.Groups() != len(keys) {
					t.Fatalf("got %s, want %s", brief(have), brief(keys))
				}
			}
		}
	}
}

// P18.4 (a fold), P3: two nodes tell the same, once they have the same tuples, whatever the order in which these came, and whatever came and went between.
func TestSameTuples(t *testing.T) {
	m := newMaker(14)
	for _, name := range names() {
		for _, s := range shapes() {
			l := m.come(24)
			a, b := node(t, name, s.name, s.arg, s.by...), node(t, name, s.name, s.arg, s.by...)
			for _, one := range l {
				a.take(put(one))
			}
			m.Shuffle(len(l), func(i, k int) { l[i], l[k] = l[k], l[i] })
			for _, one := range l {
				m.pass(b)
				b.take(put(one))
				if m.Intn(4) == 0 {
					b.take(drop(one))
					m.pass(b)
					b.take(put(one))
				}
			}
			b.tells(len(l), lines(a.n.All())...)
			for _, one := range l {
				if p, q := a.take(drop(one)), b.take(drop(one)); !alikeDeltas(p, q) {
					t.Fatalf("%s: got %s and %s", brief(line(one)), brief(told(p)), brief(told(q)))
				}
			}
		}
	}
}

// P18.4: in each order of a few tuples that come, and in each order in which they go.
func TestAllOrders(t *testing.T) {
	few := tuples("k=1 x=2 #1", "k=1 x=-1/2 #1", "k=1 x=2 #2", "k=2 x=7 #1", "k=1 x=1/3")
	for _, name := range names() {
		for _, by := range [][]string{nil, {"k"}} {
			var want []string
			for i, order := range permutations(len(few)) {
				b := node(t, name, "s", "x", by...)
				for _, k := range order {
					b.take(put(few[k]))
				}
				if i == 0 {
					want = lines(b.last)
				}
				b.tells(len(few), want...)
				for k := range few {
					b.take(drop(few[order[(k*2+i)%len(few)]]))
				}
				if b.n.Held() != 0 {
					t.Fatalf("%d are held", b.n.Held())
				}
			}
		}
	}
}

// P3: two nodes know nothing of each other.
func TestNodesAlone(t *testing.T) {
	m := newMaker(15)
	for _, s := range shapes() {
		l := []*both{node(t, "sum", s.name, s.arg, s.by...), node(t, "sum", s.name, s.arg, s.by...), node(t, "set", s.name, s.arg, s.by...), node(t, "min", s.name, s.arg, s.by...)}
		for range 60 {
			m.step(pick(m, l...))
			for _, b := range l {
				b.check()
			}
		}
		node(t, "sum", s.name, s.arg, s.by...)
	}
}

// rounds is what a node tells of some calls, that are the same for the same seed.
func rounds(n *group.Node, seed int64) []string {
	m := newMaker(seed)
	var l []string
	for range 80 {
		a := m.delta(nil)
		l = append(l, told(n.Take(a))...)
		l = append(l, told(n.Take(m.delta([]api.Tuple{a.T})))...)
		l = append(l, lines(n.All())...)
		l = append(l, fmt.Sprint(n.Held(), n.Groups()))
	}
	return l
}

// P3: the same calls on another node tell the same.
func TestSameAgain(t *testing.T) {
	for i := 1; i <= 6; i++ {
		for _, s := range shapes() {
			want := rounds(group.New(i, s.name, s.arg, s.by), 16)
			for range 3 {
				if got := rounds(group.New(i, s.name, s.arg, s.by), 16); !slices.Equal(got, want) {
					t.Fatal("another thing is told")
				}
			}
		}
	}
}

// P3: so do tuples that are not right, whatever the order in which the map is gone through.
func TestSameAgainOfWrong(t *testing.T) {
	var want []string
	for i := range 30 {
		n := group.New(api.FoldCount, "s", "x", []string{"k"})
		var got []string
		for _, s := range []string{"10", "1x", "9", "01", "2/2", "1", "", "9x", "0x"} {
			got = append(got, told(n.Take(put(also(bound("k", num(s)), "x", num("1")))))...)
			got = append(got, told(n.Take(put(also(bound("k", num(s), 1), "x", num(s)))))...)
			got = append(got, lines(n.All())...)
		}
		if i == 0 {
			want = got
		}
		if !slices.Equal(got, want) {
			t.Fatalf("the %dth time another thing is told", i)
		}
	}
}

// P3: nodes beside one another, each in a goroutine of its own, tell what each tells alone; so do All, Held and Groups of one, asked by many at once.
func TestBeside(t *testing.T) {
	shared, m := group.New(api.FoldSet, "s", "x", []string{"k"}), newMaker(17)
	for _, one := range m.come(60) {
		shared.Take(put(one))
	}
	want, groups := lines(shared.All()), shared.Groups()
	var all sync.WaitGroup
	for i := range int64(12) {
		by := [][]string{nil, {"k"}}[i%2]
		alone := rounds(group.New(int(i%6)+1, "s", "x", by), i)
		all.Go(func() {
			if got := rounds(group.New(int(i%6)+1, "s", "x", by), i); !slices.Equal(got, alone) {
				t.Errorf("got %s, want %s", brief(got), brief(alone))
			}
			for range 20 {
				if !slices.Equal(lines(shared.All()), want) || shared.Held() != 60 || shared.Groups() != groups {
					t.Error("another thing is told")
				}
			}
		})
	}
	all.Wait()
	if len(want) == 0 {
		t.Error("none is told")
	}
}

// P1: very many tuples, in one group and in as many groups, very many of by, and very long tuples, are told at once.
func TestVeryMany(t *testing.T) {
	begin := time.Now()
	const many = 100000
	one, each := node(t, "max", "s", "x"), node(t, "count", "s", "x", "k")
	for i := range many {
		number := num(fmt.Sprint(i))
		if got := told(one.n.Take(put(bound("x", number, 1)))); len(got) != 2 || got[1] != "+s="+number.S {
			t.Fatalf("%d: got %s", i, got)
		}
		if got := told(each.n.Take(put(also(bound("k", number), "x", sym("a"))))); len(got) != 1 || got[0] != "+k="+number.S+" s=1" {
			t.Fatalf("%d: got %s", i, got)
		}
	}
	if l := each.n.All(); len(l) != many || line(l[many-1]) != fmt.Sprintf("k=%d s=1", many-1) || each.n.Groups() != many || each.n.Held() != many {
		t.Fatalf("got %d", len(l))
	}
	for i := range many {
		number := num(fmt.Sprint(many - i - 1))
		if got := told(one.n.Take(drop(bound("x", number, 1)))); len(got) != 2 || got[0] != "-s="+number.S {
			t.Fatalf("%d: got %s", i, got)
		}
		if got := told(each.n.Take(drop(also(bound("k", number), "x", sym("a"))))); len(got) != 1 || got[0] != "-k="+number.S+" s=1" {
			t.Fatalf("%d: got %s", i, got)
		}
	}
	one.tells(0, "s=none")
	each.tells(0)
	veryLong(t, many)
	if took := time.Since(begin); took > time.Minute {
		t.Errorf("%v", took)
	}
}

// veryLong fails, unless tuples of very many variables and facts are told as others are, by very many of these.
func veryLong(t *testing.T, many int) {
	t.Helper()
	var long api.Tuple
	var by []string
	for i := range many {
		name := fmt.Sprintf("a%08d", i)
		long.Binds, long.Ids = append(long.Binds, api.Bind{Name: name, V: num("1")}), append(long.Ids, i+1)
		by = append(by, name)
	}
	slices.Reverse(by)
	n := group.New(api.FoldSum, "s", by[7], by)
	got := n.Take(put(long))
	if len(got) != 1 || !slices.Equal(got[0].T.Binds, append(slices.Clone(long.Binds), api.Bind{Name: "s", V: num("1")})) || len(got[0].T.Ids) > 0 {
		t.Fatalf("got %s", brief(told(got)))
	}
	long.Binds = long.Binds[1:]
	if got := n.Take(put(long)); len(got) > 0 || n.Held() != 2 || n.Groups() != 1 {
		t.Fatalf("got %s", brief(told(got)))
	}
	if group.New(api.FoldSum, by[many/2], "x", by) != nil || group.New(api.FoldSum, "s", "x", append(by, by[many/2])) != nil {
		t.Fatal("not nil")
	}
}

// P3: what is gone is not kept, nor what was told: the heap does not grow by what comes and goes, and with all gone as much is kept as at first.
func TestNothingKept(t *testing.T) {
	var nodes []*group.Node
	for i := 1; i <= 6; i++ {
		nodes = append(nodes, group.New(i, "s", "x", []string{"k"}), group.New(i, "s", "x", nil))
	}
	goRound := func(rounds int) {
		for i := range rounds {
			// The texts are made anew each time, so that one that is kept takes room of its own.
			one := also(bound("k", text(fmt.Sprintf("%099d", i)), i+1), "x", num(fmt.Sprintf("1%099d", i)))
			for _, n := range nodes {
				for _, add := range []bool{true, true, false, false} {
					n.Take(api.Delta{Add: add, T: one})
					n.Take(api.Delta{Add: add, T: api.Tuple{Binds: one.Binds[:1]}})
					n.All()
				}
			}
		}
	}
	goRound(500)
	was := heap()
	goRound(5000)
	if more := heap() - was; more > 2000000 {
		t.Errorf("%d bytes more", more)
	}
	for i, n := range nodes {
		if n.Held() != 0 || n.Groups() != i%2 || len(n.All()) != i%2 {
			t.Errorf("%d are held, in %d groups", n.Held(), n.Groups())
		}
	}
	runtime.KeepAlive(nodes)
}

// heap is how many bytes are in use.
func heap() int64 {
	runtime.GC()
	var m runtime.MemStats
	runtime.ReadMemStats(&m)
	return int64(m.HeapAlloc)
}
