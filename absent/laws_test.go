package absent_test

import (
	"fmt"
	"runtime"
	"slices"
	"sync"
	"testing"
	"time"

	"tribunal/absent"
	"tribunal/api"
	"tribunal/bind"
	"tribunal/join"
)

// P17.1 to P17.3: any calls, held against another telling; enough of each sort.
func TestAnyCalls(t *testing.T) {
	m, count, most := newMaker(10), map[string]int{}, 0
	for range 400 {
		b := node(t)
		for range 80 {
			was, x := b.n.Held(), m.turn(b)
			got := b.turn(x)
			count[fmt.Sprint("left ", x.left, ", held ", b.n.Held()-was, ", told some ", len(got) > 0)]++
			if !x.left {
				most = max(most, len(got))
			}
		}
	}
	for _, side := range []bool{true, false} {
		for _, held := range []int{1, -1} {
			for _, some := range []bool{true, false} {
				if sort := fmt.Sprint("left ", side, ", held ", held, ", told some ", some); count[sort] < 1000 {
					t.Errorf("%s: just %d times", sort, count[sort])
				}
			}
		}
		if sort := fmt.Sprint("left ", side, ", held 0, told some false"); count[sort] < 1000 {
			t.Errorf("%s: just %d times", sort, count[sort])
		}
	}
	if len(count) != 10 || most < 10 {
		t.Errorf("%v, %d", count, most)
	}
}

// P17.1 (Q1, Q2): the same by the words of the chapter: of two memories of join, by bind.Merge.
func TestAllByWords(t *testing.T) {
	m := newMaker(11)
	agree := func(a, b api.Tuple) bool {
		_, is := bind.Merge(a, b)
		return is
	}
	for range 150 {
		b, left, right := node(t), join.NewMemory(), join.NewMemory()
		for range 60 {
			x := m.turn(b)
			var want []api.Delta
			if x.left && left.Take(x.d) && !slices.ContainsFunc(right.All(), func(other api.Tuple) bool { return agree(x.d.T, other) }) {
				want = append(want, x.d)
			}
			if !x.left && right.Take(x.d) {
				for _, one := range left.All() {
					others := slices.DeleteFunc(right.All(), func(other api.Tuple) bool { return bind.Cmp(other, x.d.T) == 0 || !agree(one, other) })
					if agree(one, x.d.T) && len(others) == 0 {
						want = append(want, api.Delta{Add: !x.d.Add, T: one})
					}
				}
			}
			if got := b.turn(x); !alikeDeltas(got, want) {
				t.Fatalf("%s: got %s, want %s", brief(x), brief(told(got)), brief(told(want)))
			}
		}
		if b.n.Held() != len(left.All())+len(right.All()) {
			t.Fatalf("got %d", b.n.Held())
		}
	}
}

// P17.2 (by deltas): All is what all deltas so far make of nothing, told by the deltas alone.
func TestByDeltas(t *testing.T) {
	m, most := newMaker(12), 0
	for range 200 {
		n := absent.New()
		var l, left, right []api.Tuple
		for range 80 {
			d, row, call := m.delta(left), &left, n.Left
			if m.Intn(3) == 0 {
				d, row, call = m.delta(right), &right, n.Right
			}
			*row = append(*row, d.T)
			var is bool
			got := call(d)
			if l, is = by(l, got); !is || !alikeRows(n.All(), l) {
				t.Fatalf("behind %s: got %s, want %s", brief(told(got)), brief(lines(n.All())), brief(lines(l)))
			}
			most = max(most, len(l))
		}
	}
	if most < 10 {
		t.Errorf("just %d", most)
	}
}

// P17.2 (by deltas): the same of hundreds of tuples that come, on both sides, and all go.
func TestByDeltasOfMany(t *testing.T) {
	m, n := newMaker(13), absent.New()
	var l []api.Tuple
	see := func(got []api.Delta) {
		t.Helper()
		var is bool
		if l, is = by(l, got); !is {
			t.Fatalf("%s", brief(told(got)))
		}
	}
	check := func() {
		t.Helper()
		if !alikeRows(n.All(), l) {
			t.Fatalf("got %s, want %s", brief(lines(n.All())), brief(lines(l)))
		}
	}
	var left, right []api.Delta
	for i := range 600 {
		left = append(left, put(tuple(fmt.Sprintf("k=%d v=%d #%d", i%40, i, i+1))))
	}
	for i := range 60 {
		right = append(right, put(tuple(fmt.Sprintf("k=%d w=%d #%d", i%30, i, i+1))))
	}
	for i, d := range left {
		see(n.Left(d))
		if i%10 == 0 {
			see(n.Right(right[i/10]))
			check()
		}
	}
	if len(l) != 150 || n.Held() != 660 {
		t.Fatalf("got %d, %d", len(l), n.Held())
	}
	for _, i := range m.Perm(len(right)) {
		see(n.Right(drop(right[i].T)))
		check()
	}
	if len(l) != 600 || n.Held() != 600 {
		t.Fatalf("got %d, %d", len(l), n.Held())
	}
	for _, i := range m.Perm(len(left)) {
		see(n.Left(drop(left[i].T)))
	}
	check()
	if len(l) > 0 || n.Held() != 0 {
		t.Fatalf("got %s", brief(lines(l)))
	}
}

// P17.3 (any order), P3: two nodes tell the same, once they have the same tuples, whatever the order in which these came, one row ahead of the other one or not, and whatever came and went between.
func TestSameTuples(t *testing.T) {
	m, free := newMaker(14), 0
	for range 80 {
		l := m.come(24)
		a, b, c := node(t), node(t), node(t)
		for _, x := range l {
			a.turn(x)
		}
		m.Shuffle(len(l), func(i, k int) { l[i], l[k] = l[k], l[i] })
		for _, x := range l {
			m.pass(b)
			b.turn(x)
			if m.Intn(4) == 0 {
				b.turn(turn{x.left, drop(x.d.T)})
				m.pass(b)
				b.turn(x)
			}
		}
		slices.SortStableFunc(l, func(x, y turn) int { return brow(x) - brow(y) })
		for _, x := range l {
			c.turn(x)
		}
		want := lines(a.n.All())
		free += len(want)
		b.tells(len(l), want...)
		c.tells(len(l), want...)
		for _, x := range l {
			x.d.Add = false
			if p, q, r := a.turn(x), b.turn(x), c.turn(x); !alikeDeltas(p, q) || !alikeDeltas(p, r) {
				t.Fatalf("%s: got %s, %s and %s", brief(x), brief(told(p)), brief(told(q)), brief(told(r)))
			}
		}
	}
	if free < 200 {
		t.Errorf("just %d were told", free)
	}
}

// P17.1 (Q1): each left one is told just if none of the right row agrees with it: as by a node of that one alone beside the right row.
func TestEachAlone(t *testing.T) {
	m := newMaker(18)
	for range 80 {
		b := node(t)
		for range 40 {
			m.step(b)
		}
		var want []string
		for _, one := range b.m.left.l {
			alone := absent.New()
			alone.Left(put(one))
			for _, other := range b.m.right.l {
				alone.Right(put(other))
			}
			want = append(want, lines(alone.All())...)
		}
		b.tells(len(b.m.left.l)+len(b.m.right.l), want...)
	}
}

// P3: two nodes know nothing of each other.
func TestNodesAlone(t *testing.T) {
	m := newMaker(15)
	for range 30 {
		l := []*both{node(t), node(t), node(t)}
		for range 60 {
			m.step(pick(m, l...))
			for _, b := range l {
				b.check()
			}
		}
		node(t).tells(0)
	}
}

// rounds is what a node tells of some calls, that are the same for the same seed.
func rounds(n *absent.Node, seed int64) []string {
	m := newMaker(seed)
	var l []string
	for range 60 {
		a, b := m.delta(nil), m.delta(nil)
		l = append(l, told(n.Left(a))...)
		l = append(l, told(n.Right(b))...)
		l = append(l, told(n.Left(m.delta([]api.Tuple{a.T})))...)
		l = append(l, told(n.Right(drop(b.T)))...)
		l = append(l, lines(n.All())...)
		l = append(l, fmt.Sprint(n.Held()))
	}
	return l
}

// P3: the same calls on another node tell the same.
func TestSameAgain(t *testing.T) {
	want := rounds(absent.New(), 16)
	for i := range 8 {
		if got := rounds(absent.New(), 16); !slices.Equal(got, want) {
			t.Fatalf("the %dth time another thing is told", i)
		}
	}
}

// P3: so do tuples that are not right, whatever the order in which maps are gone through.
func TestSameAgainOfWrong(t *testing.T) {
	var l []api.Tuple
	for _, s := range []string{"10", "1x", "9", "01", "2/2", "1", "", "9x", "0x"} {
		l = append(l, bound("x"+s, num("1"), 1), bound("x", num(s), 1), bound("y", num(s), 1))
	}
	var want []string
	for i := range 30 {
		n := absent.New()
		var got []string
		for k := range l {
			got = append(got, told(n.Left(put(l[k])))...)
			got = append(got, told(n.Right(put(l[len(l)-k-1])))...)
			got = append(got, told(n.Right(drop(l[len(l)-k-1])))...)
		}
		got = append(got, lines(n.All())...)
		if i == 0 {
			want = got
		}
		if !slices.Equal(got, want) {
			t.Fatalf("the %dth time another thing is told", i)
		}
	}
}

// P3: nodes beside one another, each in a goroutine of its own, tell what each tells alone; so do All and Held of one, asked by many at once.
func TestBeside(t *testing.T) {
	shared, m := absent.New(), newMaker(17)
	for i := range 40 {
		shared.Left(put(bound("x", m.value(), i+1)))
		shared.Right(put(bound("x", num(fmt.Sprint(i+2)), i+1)))
	}
	want := lines(shared.All())
	var all sync.WaitGroup
	for i := range int64(8) {
		alone := rounds(absent.New(), i)
		all.Go(func() {
			if got := rounds(absent.New(), i); !slices.Equal(got, alone) {
				t.Errorf("got %s, want %s", brief(got), brief(alone))
			}
			for range 20 {
				if !slices.Equal(lines(shared.All()), want) || shared.Held() != 80 {
					t.Error("another thing is told")
				}
			}
		})
	}
	all.Wait()
	if len(want) == 0 {
		t.Error("none is told")
	}
}

// P1: very many tuples, and very long ones, are told at once.
func TestVeryMany(t *testing.T) {
	begin := time.Now()
	const many = 100000
	n := absent.New()
	for i := range many {
		if got := n.Left(put(bound("x", num(fmt.Sprint(i)), many-i))); len(got) != 1 {
			t.Fatalf("%d: got %s", i, brief(told(got)))
		}
	}
	for i := range 20 {
		if got := told(n.Right(put(bound("x", num(fmt.Sprint(i)), 7)))); !slices.Equal(got, []string{fmt.Sprintf("-x=%d #%d", i, many-i)}) {
			t.Fatalf("%d: got %s", i, brief(got))
		}
	}
	if got := n.Right(put(tuple("y=1 #7"))); len(got) != many-20 || got[0].T.Ids[0] != 1 || n.Held() != many+21 || len(n.All()) > 0 {
		t.Fatalf("got %s", brief(told(got)))
	}
	if got := n.Right(drop(tuple("y=1 #7"))); len(got) != many-20 || got[many-21].T.Ids[0] != many-20 || len(n.All()) != many-20 {
		t.Fatalf("got %s", brief(told(got)))
	}
	n = absent.New()
	for i := range many {
		n.Right(put(bound("x", num(fmt.Sprint(i)), i+1)))
	}
	for i := range 20 {
		if got := n.Left(put(bound("x", num(fmt.Sprint(i)), 1))); len(got) > 0 {
			t.Fatalf("%d: got %s", i, brief(told(got)))
		}
		if got := n.Left(put(bound("x", num(fmt.Sprint(-1-i)), 1))); len(got) != 1 {
			t.Fatalf("%d: got %s", i, brief(told(got)))
		}
	}
	veryLong(t, many)
	if took := time.Since(begin); took > time.Minute {
		t.Errorf("%v", took)
	}
}

// veryLong fails, unless tuples of very many variables and facts are told as others are.
func veryLong(t *testing.T, many int) {
	t.Helper()
	var left, right api.Tuple
	for i := range many {
		left.Binds = append(left.Binds, api.Bind{Name: fmt.Sprintf("a%08d", 2*i), V: num("1")})
		right.Binds = append(right.Binds, api.Bind{Name: fmt.Sprintf("a%08d", 3*i), V: num("1")})
		left.Ids, right.Ids = append(left.Ids, i+1), append(right.Ids, many-i)
	}
	n := absent.New()
	if got := n.Left(put(left)); len(got) != 1 || !alike(got[0].T, left) {
		t.Fatalf("got %d", len(got))
	}
	right.Binds[2].V = num("2")
	if got := n.Right(put(right)); len(got) > 0 {
		t.Fatalf("got %d", len(got))
	}
	right.Binds[2].V = num("1")
	if got := n.Right(put(right)); len(got) != 1 || !alike(got[0].T, left) || len(n.All()) > 0 {
		t.Fatalf("got %d", len(got))
	}
}

// P3: what is gone is not kept, nor what was told: the heap does not grow by what comes and goes.
func TestNothingKept(t *testing.T) {
	n := absent.New()
	goRound := func(rounds int) {
		for i := range rounds {
			// The texts are made anew each time, so that one that is kept takes room of its own.
			note := text(fmt.Sprintf("%099d", i))
			for _, add := range []bool{true, true, false, false} {
				n.Left(api.Delta{Add: add, T: bound("x", note, i+1)})
				n.Right(api.Delta{Add: add, T: bound("y", note, i+1)})
				n.Right(api.Delta{Add: add, T: bound("x", note, 1)})
				n.Left(api.Delta{Add: add, T: bound("y", note, 1)})
				n.All()
			}
		}
	}
	goRound(1000)
	was := heap()
	goRound(30000)
	if more := heap() - was; more > 2000000 {
		t.Errorf("%d bytes more", more)
	}
	if n.Held() != 0 || len(n.All()) != 0 {
		t.Errorf("%d are held", n.Held())
	}
	runtime.KeepAlive(n)
}

// heap is how many bytes are in use.
func heap() int64 {
	runtime.GC()
	var m runtime.MemStats
	runtime.ReadMemStats(&m)
	return int64(m.HeapAlloc)
}
