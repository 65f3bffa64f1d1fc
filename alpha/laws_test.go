package alpha_test

import (
	"fmt"
	"runtime"
	"slices"
	"sync"
	"testing"
	"time"

	"tribunal/alpha"
	"tribunal/api"
	"tribunal/bind"
)

// P15.1, P15.2: any calls, of any patterns, held against another telling; enough of each sort.
func TestAnyCalls(t *testing.T) {
	m, count := newMaker(10), map[string]int{}
	for range 600 {
		b := of(t, m.pat(), m.as())
		for range 60 {
			was, had := len(b.m.facts), len(b.last)
			got := m.step(b)
			switch len(b.m.facts) - was {
			case 1:
				count[fmt.Sprint("came, told ", len(got))]++
			case -1:
				count[fmt.Sprint("went, told ", len(got))]++
			default:
				count[fmt.Sprint("nothing, told ", len(got), ", changed ", len(b.last)-had)]++
			}
		}
	}
	for _, sort := range []string{"came, told 0", "came, told 1", "went, told 0", "went, told 1", "nothing, told 0, changed 0"} {
		if count[sort] < 1000 {
			t.Errorf("%s: just %d times", sort, count[sort])
		}
	}
	if len(count) != 5 {
		t.Errorf("%v", count)
	}
}

// P15.1 (O1): All is what bind.Match makes of each of the facts, where that is true, in bind.Sort's order.
func TestAllIsMatch(t *testing.T) {
	m, s, most := newMaker(11), made(t), 0
	for range 300 {
		b := beside(t, s, m.pat(), m.as())
		for range 40 {
			m.step(b)
		}
		var want []api.Tuple
		for _, f := range b.m.facts {
			if one, is := bind.Match(s, b.m.p, b.m.as, f); is {
				want = append(want, one)
			}
		}
		want = bind.Sort(want)
		if got := b.n.All(); !slices.EqualFunc(got, want, alike) {
			t.Fatalf("%s as %q: got %s, want %s", brief(b.m.p), b.m.as, brief(lines(got)), brief(lines(want)))
		}
		most = max(most, len(want))
	}
	if most < 5 {
		t.Errorf("just %d", most)
	}
}

// P15.2 (by deltas): All is what all deltas so far make of nothing, told by the deltas alone.
func TestByDeltas(t *testing.T) {
	m := newMaker(12)
	for range 300 {
		n := alpha.New(made(t), m.pat(), m.as())
		var l []api.Tuple
		for range 60 {
			var got []api.Delta
			if m.Intn(5) < 3 {
				got = n.Add(m.fact())
			} else {
				got = n.Del(m.number())
			}
			var is bool
			if l, is = by(l, got); !is || !slices.EqualFunc(n.All(), l, alike) {
				t.Fatalf("behind %s: got %s, want %s", brief(told(got)), brief(lines(n.All())), brief(lines(l)))
			}
		}
	}
}

// P15.2 (by deltas): the same of hundreds of facts that come, and all go.
func TestByDeltasOfMany(t *testing.T) {
	m := newMaker(13)
	b := of(t, pat("pair", asks("a", "x"), asks("b", "x")), "f")
	for _, i := range m.Perm(300) {
		b.add(pair(i, fmt.Sprint(i%7), fmt.Sprint(i%7%5)))
	}
	if len(b.last) < 200 || len(b.last) > 250 {
		t.Fatalf("got %d", len(b.last))
	}
	for _, i := range m.Perm(320) {
		b.del(i)
	}
	b.all()
}

// come is facts, no two of one number, in some order.
func (m maker) come(many int) []api.Fact {
	var l []api.Fact
	for _, i := range m.Perm(many) {
		f := m.fact()
		f.Id = i + 1
		l = append(l, f)
	}
	return l
}

// pass has other facts come and go, at a number and at one that no fact comes to have.
func (m maker) pass(b *both, number int) {
	b.t.Helper()
	for range m.Intn(3) {
		f := m.fact()
		f.Id = one(m, number, number+1000)
		b.add(f)
		b.del(f.Id)
	}
}

// P15.1 (O1), P3: two nodes tell the same, once they have the same facts, whatever the order in which these came, and whatever came and went between.
func TestSameFacts(t *testing.T) {
	m := newMaker(14)
	for range 200 {
		p, as, l := m.pat(), m.as(), m.come(30)
		a, b := of(t, p, as), of(t, p, as)
		for _, f := range l {
			a.add(f)
		}
		m.Shuffle(len(l), func(i, k int) { l[i], l[k] = l[k], l[i] })
		for _, f := range l {
			m.pass(b, f.Id)
			b.add(f)
			if m.Intn(4) == 0 {
				b.del(f.Id)
				m.pass(b, f.Id)
				b.add(f)
			}
		}
		b.all(lines(a.n.All())...)
		for _, f := range l {
			if x, y := a.del(f.Id), b.del(f.Id); !alikeDeltas(x, y) {
				t.Fatalf("%s: got %s and %s", brief(f), brief(told(x)), brief(told(y)))
			}
		}
	}
}

// P3: two nodes of one schema, also of one pattern, know nothing of each other, and the schema stays as it is.
func TestNodesAlone(t *testing.T) {
	m, s := newMaker(15), made(t)
	for range 60 {
		p := m.pat()
		l := []*both{beside(t, s, p, "f"), beside(t, s, p, "f"), beside(t, s, p, ""), beside(t, s, m.pat(), m.as())}
		for range 60 {
			m.step(one(m, l...))
			for _, b := range l {
				b.check()
			}
		}
		l = append(l, beside(t, s, p, "f"))
		l[4].all()
	}
	for i, want := range templates() {
		if got := s.List()[i]; got.Name != want.Name || !slices.Equal(got.Slots, want.Slots) {
			t.Fatalf("got %s, want %s", brief(got), brief(want))
		}
	}
}

// P3: the same calls on another node tell the same.
func TestSameAgain(t *testing.T) {
	var want []string
	for i := range 8 {
		m, n := newMaker(16), alpha.New(made(t), pat("pair", asks("a", "x")), "f")
		for k := range 100 {
			n.Add(pair(k*7%101, "1", "2"))
		}
		var got []string
		for range 200 {
			got = append(got, told(n.Add(m.fact()))...)
			got = append(got, told(n.Del(m.number()))...)
			got = append(got, lines(n.All())...)
		}
		if i == 0 {
			want = got
		}
		if !slices.Equal(got, want) {
			t.Fatalf("the %dth time another thing is told", i)
		}
	}
}

// rounds is what a node tells of some calls, that are the same for the same seed.
func rounds(n *alpha.Node, seed int64) []string {
	m := newMaker(seed)
	var l []string
	for range 300 {
		l = append(l, told(n.Add(m.fact()))...)
		l = append(l, told(n.Del(m.number()))...)
		l = append(l, lines(n.All())...)
	}
	return l
}

// P3: nodes of one schema beside one another, each in a goroutine of its own, tell what each tells alone; so does All of one, asked by many at once.
func TestBeside(t *testing.T) {
	s, p := made(t), pat("pair", asks("a", "x"))
	shared := alpha.New(s, p, "f")
	for k := range 50 {
		shared.Add(pair(k, "1", "2"))
	}
	want := lines(shared.All())
	var all sync.WaitGroup
	for i := range int64(8) {
		alone := rounds(alpha.New(made(t), p, "f"), i)
		all.Go(func() {
			if got := rounds(alpha.New(s, p, "f"), i); !slices.Equal(got, alone) {
				t.Errorf("got %s, want %s", brief(got), brief(alone))
			}
			for range 100 {
				if got := lines(shared.All()); !slices.Equal(got, want) {
					t.Errorf("got %s, want %s", brief(got), brief(want))
				}
			}
		})
	}
	all.Wait()
}

// P1: very many facts, a very long pattern, and very long values, names and templates are told at once.
func TestVeryMany(t *testing.T) {
	begin := time.Now()
	const many = 200000
	n := alpha.New(made(t), pat("pair", asks("a", "x")), "f")
	for i := range many {
		if got := n.Add(pair(many-i, "1", "2")); len(got) != 1 {
			t.Fatalf("%d: got %s", i, brief(got))
		}
	}
	for i, one := range n.All() {
		if one.Ids[0] != i+1 {
			t.Fatalf("%d: got %s", i, brief(one))
		}
	}
	for i := range many {
		if got := n.Del(i + 1); len(got) != 1 || got[0].T.Ids[0] != i+1 {
			t.Fatalf("%d: got %s", i, brief(got))
		}
	}
	if l := n.All(); len(l) != 0 {
		t.Fatalf("got %s", brief(l))
	}
	long := make([]api.Slot, many)
	for i := range long {
		long[i] = asks("a", fmt.Sprintf("x%d", many+i))
	}
	n = alpha.New(made(t), pat("pair", long...), "f")
	if got := n.Add(pair(1, "1", "2")); len(got) != 1 || len(got[0].T.Binds) != many+1 {
		t.Fatalf("got %s", brief(got))
	}
	long = append(long, has("a", num("2")))
	tells(t, alpha.New(made(t), pat("pair", long...), "").Add(pair(1, "1", "2")))
	tells(t, n.Add(fact(2, "pair", make([]api.Value, many)...)))
	tells(t, n.Add(fact(3, string(make([]byte, many)), num("1"))))
	tells(t, n.Add(pair(4, string(make([]byte, many)), "1")))
	if took := time.Since(begin); took > time.Minute {
		t.Errorf("%v", took)
	}
}

// P3: what is gone is not kept, nor what makes nothing, nor what was told: the heap does not grow by what comes and goes.
func TestNothingKept(t *testing.T) {
	n := alpha.New(made(t), pat("order", asks("by", "who"), asks("note", "n")), "f")
	goRound := func(rounds int) {
		for i := range rounds {
			// The texts are made anew each time, so that one that is kept takes room of its own.
			note := text(fmt.Sprintf("%099d", i))
			n.Add(fact(1, "order", sym("ann"), num("1"), boolean("true"), note))
			n.Add(fact(2, "other", note, note))
			n.Add(fact(3, "order", note))
			n.Add(fact(1, "order", sym("bob"), num("1"), boolean("true"), note))
			n.All()
			for id := range 5 {
				n.Del(id)
			}
		}
	}
	goRound(1000)
	was := heap()
	goRound(60000)
	if more := heap() - was; more > 2000000 {
		t.Errorf("%d bytes more", more)
	}
	runtime.KeepAlive(n)
}

// heap is how many bytes are in use.
func heap() int64 {
	runtime.GC()
	var m runtime.MemStats
	runtime.ReadMemStats(&m)
	return int64(m.HeapAlloc)
}
