package agenda_test

import (
	"math"
	"math/big"
	"math/rand"
	"slices"
	"strings"

	"tribunal/api"
)

// model is what an agenda has to be like: a list of what holds, as it came, gone through each time. It is another telling, without a heap, a map, and bind.
type model struct {
	saliences []int
	l         []entry
}

type entry struct {
	c    api.Change
	done bool
}

func newModel(saliences []int) *model { return &model{saliences: slices.Clone(saliences)} }

func (m *model) place(c api.Change) int {
	return slices.IndexFunc(m.l, func(e entry) bool { return e.c.Rule == c.Rule && alike(e.c.T, c.T) })
}

func (m *model) change(c api.Change) bool {
	i := m.place(c)
	if c.Rule < 0 || c.Rule > len(m.saliences)-1 || c.Add && i >= 0 || !c.Add && i < 0 {
		return false
	}
	if c.Add {
		m.l = append(m.l, entry{c: ownChange(c)})
	} else {
		m.l = slices.Delete(m.l, i, i+1)
	}
	return true
}

// list puts each one that was not done in at its place: behind all that stand ahead of it.
func (m *model) list() []api.Change {
	var l []api.Change
	for _, e := range m.l {
		if e.done {
			continue
		}
		i := 0
		for i < len(l) && order(m.saliences, l[i], e.c) < 0 {
			i++
		}
		l = slices.Insert(l, i, e.c)
	}
	return l
}

func (m *model) fire() bool {
	l := m.list()
	if len(l) == 0 {
		return false
	}
	m.l[m.place(l[0])].done = true
	return true
}

// holds and done are what holds, and of these what was done.
func (m *model) holds() []api.Change {
	var l []api.Change
	for _, e := range m.l {
		l = append(l, e.c)
	}
	return l
}

func (m *model) done() []api.Change {
	var l []api.Change
	for _, e := range m.l {
		if e.done {
			l = append(l, e.c)
		}
	}
	return l
}

// order is -1, 0 or 1, as a stands ahead of b, is alike, or stands behind it: as the words of chapter 20 go.
func order(saliences []int, a, b api.Change) int {
	x, y := saliences[a.Rule], saliences[b.Rule]
	if x != y {
		return sign(x < y)
	}
	k, l := a.T.Ids, b.T.Ids
	for len(k) > 0 && len(l) > 0 {
		var p, q int
		p, k = greatest(k)
		q, l = greatest(l)
		if p != q {
			return sign(p < q)
		}
	}
	if len(k) != len(l) {
		return sign(len(k) < len(l))
	}
	if a.Rule != b.Rule {
		return sign(a.Rule > b.Rule)
	}
	return against(a.T, b.T)
}

// greatest is the greatest one of a list, and the others.
func greatest(l []int) (int, []int) {
	at := 0
	for i := range l {
		if l[i] > l[at] {
			at = i
		}
	}
	return l[at], slices.Concat(l[:at], l[at+1:])
}

// against is -1, 0 or 1: by the facts, then by the variables, as the words of chapter 14 go.
func against(a, b api.Tuple) int {
	for i := range min(len(a.Ids), len(b.Ids)) {
		if a.Ids[i] != b.Ids[i] {
			return sign(a.Ids[i] > b.Ids[i])
		}
	}
	if len(a.Ids) != len(b.Ids) {
		return sign(len(a.Ids) > len(b.Ids))
	}
	for i := range min(len(a.Binds), len(b.Binds)) {
		x, y := a.Binds[i], b.Binds[i]
		if x.Name != y.Name {
			return sign(x.Name > y.Name)
		}
		if x.V != y.V {
			return values(x.V, y.V)
		}
	}
	if len(a.Binds) != len(b.Binds) {
		return sign(len(a.Binds) > len(b.Binds))
	}
	return 0
}

func sign(behind bool) int {
	if behind {
		return 1
	}
	return -1
}

// values is the order of right ones, as the words of chapter 4 go.
func values(a, b api.Value) int {
	if a.Kind != b.Kind {
		return sign(a.Kind > b.Kind)
	}
	if a.Kind == api.Num || a.Kind == api.Id {
		x, _ := new(big.Rat).SetString(a.S)
		y, _ := new(big.Rat).SetString(b.S)
		return x.Cmp(y)
	}
	return strings.Compare(a.S, b.S)
}

// maker makes tuples and calls, of few names, values and numbers, the same ones each time.
type maker struct{ *rand.Rand }

func newMaker(seed int64) maker { return maker{rand.New(rand.NewSource(seed))} }

// pick is one of those.
func pick[T any](m maker, those ...T) T { return those[m.Intn(len(those))] }

// near is right values whose texts are near one another, or have what stands between a tuple's parts.
func near() []api.Value {
	l := []api.Value{{}, sym("a"), sym("none"), sym("true"), sym("a1"), value(api.Bool, "true"), value(api.Bool, "false"), num("1"), num("2"), num("10"), num("12"), num("-1"), num("1/2"), num("1/3"), num("9"), value(api.Id, "0"), value(api.Id, "1"), value(api.Id, "2"), value(api.Id, "12"), value(api.Id, "999999999")}
	for _, s := range []string{"", " ", "1", "a", "'a", "true", "none", "#1", "1 #1", "1 y=1", "x=1", "x=1 #1 ", "1 #1 #2", "=", "#", "{", "{1}", "{1", "1}", "1/2"} {
		l = append(l, text(s))
	}
	for _, s := range []string{"", "1", "1, 2", "'a", `"a"`, "#1", `""`, `"1 #1"`, `"x=1"`, "none", "true"} {
		l = append(l, value(api.Set, s))
	}
	return l
}

// value is one of few; seldom one that is near another in its text.
func (m maker) value() api.Value {
	if m.Intn(4) > 0 {
		return pick(m, num("1"), num("2"), num("10"))
	}
	return pick(m, near()...)
}

// tuple is one of up to three variables and of up to three facts.
func (m maker) tuple() api.Tuple {
	var t api.Tuple
	for _, name := range []string{"x", "x1", "y"} {
		if m.Intn(3) == 0 {
			t.Binds = append(t.Binds, api.Bind{Name: name, V: m.value()})
		}
	}
	for range m.Intn(4) {
		t.Ids = append(t.Ids, pick(m, 1, 1, 2, 2, 3, 12, 21))
	}
	return t
}

// saliences is those of few rules; seldom ones whose differences do not fit.
func (m maker) saliences() []int {
	l := make([]int, 1+m.Intn(4))
	for i := range l {
		l[i] = m.Intn(3) - 1
		if m.Intn(10) == 0 {
			l[i] = pick(m, math.MinInt, math.MinInt+1, math.MaxInt-1, math.MaxInt, 1000, -1000)
		}
	}
	return l
}

// rule is a rule's place; seldom one that is none's.
func (m maker) rule(many int) int {
	if many == 0 || m.Intn(30) == 0 {
		return pick(m, -1, many, many+1, math.MinInt, math.MaxInt)
	}
	return m.Intn(many)
}

// change is of a tuple that mostly comes, or of one that holds, done or not.
func (m maker) change(b *model) api.Change {
	if len(b.l) > 0 && m.Intn(5) < 2 {
		c := ownChange(pick(m, b.l...).c)
		c.Add = m.Intn(3) == 0
		return c
	}
	return api.Change{Add: m.Intn(4) > 0, Rule: m.rule(len(b.saliences)), T: m.tuple()}
}

// step is a call on an agenda: a change, or a Fire.
func (m maker) step(b *both) {
	b.t.Helper()
	if m.Intn(4) == 0 {
		b.fire()
	} else {
		b.change(m.change(b.m))
	}
}

// unlike is Adds of those rules, no two of them the same.
func (m maker) unlike(rules, many int) []api.Change {
	s := newModel(make([]int, rules))
	for len(s.l) < many {
		s.change(put(m.Intn(rules), m.tuple()))
	}
	return s.holds()
}
