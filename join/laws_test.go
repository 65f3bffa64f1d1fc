package join_test

import (
	"fmt"
	"runtime"
	"slices"
	"sync"
	"testing"
	"time"

	"tribunal/api"
	"tribunal/bind"
	"tribunal/join"
)

// P16.1 to P16.3: any calls, held against another telling; enough of each sort.
func TestAnyCalls(t *testing.T) {
	m, count, most := newMaker(10), map[string]int{}, 0
	for range 250 {
		b := node(t)
		for range 80 {
			was := b.n.Held()
			got := m.step(b)
			count[fmt.Sprint("held ", b.n.Held()-was, ", told some ", len(got) > 0)]++
			most = max(most, len(got))
		}
	}
	for _, sort := range []string{"held 1, told some true", "held 1, told some false", "held -1, told some true", "held -1, told some false", "held 0, told some false"} {
		if count[sort] < 1000 {
			t.Errorf("%s: just %d times", sort, count[sort])
		}
	}
	if len(count) != 5 || most < 10 {
		t.Errorf("%v, %d", count, most)
	}
}

// P16.1 (P2, P3): the same by the words of the chapter: bind.Merge, of two memories' All, sorted by bind.Sort.
func TestAllIsMerge(t *testing.T) {
	m := newMaker(11)
	for range 150 {
		n, left, right := join.New(), join.NewMemory(), join.NewMemory()
		for range 60 {
			d, isLeft := m.delta(nil), m.Intn(2) == 0
			var got, want []api.Delta
			if isLeft {
				got = n.Left(d)
				if left.Take(d) {
					want = each(d.Add, []api.Tuple{d.T}, right.All())
				}
			} else {
				got = n.Right(d)
				if right.Take(d) {
					want = each(d.Add, left.All(), []api.Tuple{d.T})
				}
			}
			if !alikeDeltas(got, want) {
				t.Fatalf("left %t, %s: got %s, want %s", isLeft, brief(d), brief(told(got)), brief(told(want)))
			}
		}
		var all []api.Tuple
		for _, d := range each(true, left.All(), right.All()) {
			all = append(all, d.T)
		}
		if all = bind.Sort(all); !alikeRows(n.All(), all) || n.Held() != len(left.All())+len(right.All()) {
			t.Fatalf("got %s, want %s", brief(lines(n.All())), brief(lines(all)))
		}
	}
}

// each is bind.Merge of each of the first ones and each of the others, where that is true.
func each(add bool, left, right []api.Tuple) []api.Delta {
	var l []api.Delta
	for _, a := range left {
		for _, b := range right {
			if t, is := bind.Merge(a, b); is {
				l = append(l, api.Delta{Add: add, T: t})
			}
		}
	}
	return l
}

// P16.2 (by deltas): All is what all deltas so far make of nothing, told by the deltas alone.
func TestByDeltas(t *testing.T) {
	m, most := newMaker(12), 0
	for range 150 {
		n := join.New()
		var l, left, right []api.Tuple
		for range 80 {
			d, row, call := m.delta(left), &left, n.Left
			if m.Intn(2) == 0 {
				d, row, call = m.delta(right), &right, n.Right
			}
			*row = append(*row, d.T)
			var is bool
			got := call(d)
			if l, is = by(l, got); !is || !alikeRows(n.All(), l) {
				t.Fatalf("behind %s: got %s, want %s", brief(told(got)), brief(lines(n.All())), brief(lines(l)))
			}
		}
		most = max(most, len(l))
	}
	if most < 50 {
		t.Errorf("just %d", most)
	}
}

// P16.2 (by deltas): the same of hundreds of tuples that come, on both sides, and all go.
func TestByDeltasOfMany(t *testing.T) {
	m, n := newMaker(13), join.New()
	var l []api.Tuple
	see := func(got []api.Delta) {
		t.Helper()
		var is bool
		if l, is = by(l, got); !is {
			t.Fatalf("%s", brief(told(got)))
		}
	}
	var all []api.Delta
	for i := range 120 {
		all = append(all, put(m.keyed("x", i+1)))
	}
	for i, d := range all {
		see(n.Left(d))
		see(n.Right(all[len(all)-i-1]))
		if i%10 == 0 && !alikeRows(n.All(), l) {
			t.Fatalf("%d: got %s, want %s", i, brief(lines(n.All())), brief(lines(l)))
		}
	}
	if len(l) < 500 || n.Held() != 240 || !alikeRows(n.All(), l) {
		t.Fatalf("got %d, %d", len(l), n.Held())
	}
	for _, i := range m.Perm(len(all)) {
		see(n.Left(drop(all[i].T)))
		if i%10 == 0 && !alikeRows(n.All(), l) {
			t.Fatalf("%d: got %s, want %s", i, brief(lines(n.All())), brief(lines(l)))
		}
	}
	if len(l) > 0 || len(n.All()) > 0 || n.Held() != 120 {
		t.Fatalf("got %s", brief(lines(l)))
	}
}

// turn is a call of one side.
type turn struct {
	left bool
	d    api.Delta
}

func (b *both) turn(x turn) []api.Delta {
	b.t.Helper()
	if x.left {
		return b.left(x.d)
	}
	return b.right(x.d)
}

// come is calls by which unlike tuples come, on both sides.
func (m maker) come(many int) []turn {
	var l []turn
	var rows [2]row
	for len(l) < many {
		x := turn{m.Intn(2) == 0, put(m.tuple())}
		side := 0
		if x.left {
			side = 1
		}
		if rows[side].take(x.d) {
			l = append(l, x)
		}
	}
	return l
}

// pass has other tuples come and go, of those that are not there.
func (m maker) pass(b *both) {
	b.t.Helper()
	for range m.Intn(3) {
		x := turn{m.Intn(2) == 0, put(m.tuple())}
		was := b.n.Held()
		b.turn(x)
		if b.n.Held() > was {
			b.turn(turn{x.left, drop(x.d.T)})
		}
	}
}

// P16.3 (any order), P3: two nodes make the same, once they have the same tuples, whatever the order in which these came, one row ahead of the other one or not, and whatever came and went between.
func TestSameTuples(t *testing.T) {
	m := newMaker(14)
	for range 60 {
		l := m.come(24)
		a, b, c := node(t), node(t), node(t)
		for _, x := range l {
			a.turn(x)
		}
		m.Shuffle(len(l), func(i, k int) { l[i], l[k] = l[k], l[i] })
		for _, x := range l {
			m.pass(b)
			b.turn(x)
			if m.Intn(4) == 0 {
				b.turn(turn{x.left, drop(x.d.T)})
				m.pass(b)
				b.turn(x)
			}
		}
		slices.SortStableFunc(l, func(x, y turn) int { return brow(x) - brow(y) })
		for _, x := range l {
			c.turn(x)
		}
		want := lines(a.n.All())
		b.makes(len(l), want...)
		c.makes(len(l), want...)
		for _, x := range l {
			x.d.Add = false
			if p, q, r := a.turn(x), b.turn(x), c.turn(x); !alikeDeltas(p, q) || !alikeDeltas(p, r) {
				t.Fatalf("%s: got %s, %s and %s", brief(x), brief(told(p)), brief(told(q)), brief(told(r)))
			}
		}
	}
}

// brow is 0 of a right one, and 1 of a left one.
func brow(x turn) int {
	if x.left {
		return 1
	}
	return 0
}

// P3: two nodes know nothing of each other.
func TestNodesAlone(t *testing.T) {
	m := newMaker(15)
	for range 30 {
		l := []*both{node(t), node(t), node(t)}
		for range 60 {
			m.step(pick(m, l...))
			for _, b := range l {
				b.check()
			}
		}
		node(t).makes(0)
	}
}

// rounds is what a node, and a memory, tell of some calls, that are the same for the same seed.
func rounds(n *join.Node, o *join.Memory, seed int64) []string {
	m := newMaker(seed)
	var l []string
	for range 60 {
		a, b := m.delta(nil), m.delta(nil)
		l = append(l, told(n.Left(a))...)
		l = append(l, told(n.Right(b))...)
		l = append(l, lines(n.All())...)
		l = append(l, fmt.Sprint(n.Held(), o.Take(a), o.Take(b)))
		l = append(l, lines(o.All())...)
	}
	return l
}

// P3: the same calls on another node, and on another memory, tell the same.
func TestSameAgain(t *testing.T) {
	want := rounds(join.New(), join.NewMemory(), 16)
	for i := range 8 {
		if got := rounds(join.New(), join.NewMemory(), 16); !slices.Equal(got, want) {
			t.Fatalf("the %dth time another thing is told", i)
		}
	}
}

// P3: so do tuples that are not right, whatever the order in which maps are gone through.
func TestSameAgainOfWrong(t *testing.T) {
	var l []api.Tuple
	for _, s := range []string{"10", "1x", "9", "01", "2/2", "1", "", "9x", "0x"} {
		l = append(l, bound("x"+s, num("1"), 1), bound("x", num(s), 1), bound("y", num(s), 1))
	}
	var want []string
	for i := range 30 {
		n := join.New()
		var got []string
		for k := range l {
			got = append(got, told(n.Left(put(l[k])))...)
			got = append(got, told(n.Right(put(l[len(l)-k-1])))...)
		}
		got = append(got, lines(n.All())...)
		if i == 0 {
			want = got
		}
		if !slices.Equal(got, want) {
			t.Fatalf("the %dth time another thing is told", i)
		}
	}
}

// P3: nodes and memories beside one another, each in a goroutine of its own, tell what each tells alone; so do All and Held of one, asked by many at once.
func TestBeside(t *testing.T) {
	shared, memory, m := join.New(), join.NewMemory(), newMaker(17)
	for i := range 40 {
		shared.Left(put(m.keyed("x", i+1)))
		shared.Right(put(m.keyed("y", i+1)))
		memory.Take(put(m.keyed("y", i+1)))
	}
	want, row := lines(shared.All()), lines(memory.All())
	var all sync.WaitGroup
	for i := range int64(8) {
		alone := rounds(join.New(), join.NewMemory(), i)
		all.Go(func() {
			if got := rounds(join.New(), join.NewMemory(), i); !slices.Equal(got, alone) {
				t.Errorf("got %s, want %s", brief(got), brief(alone))
			}
			for range 20 {
				if !slices.Equal(lines(shared.All()), want) || shared.Held() != 80 || !slices.Equal(lines(memory.All()), row) {
					t.Error("another thing is told")
				}
			}
		})
	}
	all.Wait()
}

// P1: very many tuples, and very long ones, are told at once.
func TestVeryMany(t *testing.T) {
	begin := time.Now()
	const many = 100000
	m := join.NewMemory()
	for i := range many {
		if one := tuple(fmt.Sprintf("x=%d #%d", i%7, many-i)); !m.Take(put(one)) || m.Take(put(one)) {
			t.Fatalf("%d", i)
		}
	}
	for i, one := range m.All() {
		if one.Ids[0] != i+1 {
			t.Fatalf("%d: got %s", i, line(one))
		}
		if !m.Take(drop(one)) || m.Take(drop(one)) {
			t.Fatalf("%d", i)
		}
	}
	if l := m.All(); len(l) != 0 {
		t.Fatalf("got %s", brief(lines(l)))
	}
	b := join.New()
	for i := range many {
		b.Left(put(bound("x", num(fmt.Sprint(i)), i+1)))
	}
	for i := range 20 {
		if got := told(b.Right(put(bound("x", num(fmt.Sprint(i)), 7)))); !slices.Equal(got, []string{fmt.Sprintf("+x=%d #%d #7", i, i+1)}) {
			t.Fatalf("%d: got %s", i, brief(got))
		}
	}
	if got := b.Right(put(tuple("y=1 #7"))); len(got) != many || got[many-1].T.Ids[0] != many || b.Held() != many+21 {
		t.Fatalf("got %s", brief(told(got)))
	}
	if l := b.Right(drop(tuple("y=1 #7"))); len(l) != many || len(b.All()) != 20 {
		t.Fatalf("got %d", len(l))
	}
	veryLong(t, many)
	if took := time.Since(begin); took > time.Minute {
		t.Errorf("%v", took)
	}
}

// veryLong fails, unless tuples of very many variables and facts are told as others are.
func veryLong(t *testing.T, many int) {
	t.Helper()
	var left, right api.Tuple
	for i := range many {
		left.Binds = append(left.Binds, api.Bind{Name: fmt.Sprintf("a%08d", 2*i), V: num("1")})
		right.Binds = append(right.Binds, api.Bind{Name: fmt.Sprintf("a%08d", 3*i), V: num("1")})
		left.Ids, right.Ids = append(left.Ids, i+1), append(right.Ids, many-i)
	}
	n := join.New()
	if got := n.Left(put(left)); len(got) > 0 {
		t.Fatalf("got %d", len(got))
	}
	got := n.Right(put(right))
	if len(got) != 1 || len(got[0].T.Binds) != 2*many-(many+2)/3 || len(got[0].T.Ids) != 2*many || got[0].T.Ids[many] != many {
		t.Fatalf("got %s", brief(told(got)))
	}
	right.Binds[many-1].V = num("2")
	if got := n.Right(put(right)); len(got) != 1 {
		t.Fatalf("got %d", len(got))
	}
	right.Binds[2].V = num("3")
	if got := n.Right(put(right)); len(got) > 0 || len(n.All()) != 2 {
		t.Fatalf("got %d", len(got))
	}
}

// P3: what is gone is not kept, nor what was told: the heap does not grow by what comes and goes.
func TestNothingKept(t *testing.T) {
	n, m := join.New(), join.NewMemory()
	goRound := func(rounds int) {
		for i := range rounds {
			// The texts are made anew each time, so that one that is kept takes room of its own.
			note := text(fmt.Sprintf("%099d", i))
			for _, add := range []bool{true, true, false, false} {
				n.Left(api.Delta{Add: add, T: bound("x", note, i+1)})
				n.Right(api.Delta{Add: add, T: bound("y", note, i+1)})
				n.Right(api.Delta{Add: add, T: bound("x", note, 1)})
				m.Take(api.Delta{Add: add, T: bound("x", note, 1)})
				n.All()
				m.All()
			}
		}
	}
	goRound(1000)
	was := heap()
	goRound(30000)
	if more := heap() - was; more > 2000000 {
		t.Errorf("%d bytes more", more)
	}
	if n.Held() != 0 || len(m.All()) != 0 {
		t.Errorf("%d are held", n.Held())
	}
	runtime.KeepAlive(n)
}

// heap is how many bytes are in use.
func heap() int64 {
	runtime.GC()
	var m runtime.MemStats
	runtime.ReadMemStats(&m)
	return int64(m.HeapAlloc)
}
