package join_test

import (
	"math/big"
	"math/rand"
	"slices"
	"strconv"
	"strings"

	"tribunal/api"
)

// row is what a memory has to be like: a list of tuples, in order. It is another telling, without a map, and without bind.
type row struct{ l []api.Tuple }

// place is that of the first tuple that does not stand ahead of t, and whether it is t.
func (r *row) place(t api.Tuple) (int, bool) {
	for i, other := range r.l {
		if c := against(other, t); c >= 0 {
			return i, c == 0
		}
	}
	return len(r.l), false
}

func (r *row) take(d api.Delta) bool {
	i, there := r.place(d.T)
	if there == d.Add {
		return false
	}
	if d.Add {
		r.l = slices.Insert(r.l, i, ownTuple(d.T))
	} else {
		r.l = slices.Delete(r.l, i, i+1)
	}
	return true
}

// against is -1, 0 or 1: by the facts, then by the variables, as the words of chapter 14 go.
func against(a, b api.Tuple) int {
	for i := range min(len(a.Ids), len(b.Ids)) {
		if a.Ids[i] != b.Ids[i] {
			return sign(a.Ids[i] > b.Ids[i])
		}
	}
	if len(a.Ids) != len(b.Ids) {
		return sign(len(a.Ids) > len(b.Ids))
	}
	for i := range min(len(a.Binds), len(b.Binds)) {
		x, y := a.Binds[i], b.Binds[i]
		if x.Name != y.Name {
			return sign(x.Name > y.Name)
		}
		if x.V != y.V {
			return values(x.V, y.V)
		}
	}
	if len(a.Binds) != len(b.Binds) {
		return sign(len(a.Binds) > len(b.Binds))
	}
	return 0
}

func sign(behind bool) int {
	if behind {
		return 1
	}
	return -1
}

// values is the order of right ones, as the words of chapter 4 go.
func values(a, b api.Value) int {
	if a.Kind != b.Kind {
		return sign(a.Kind > b.Kind)
	}
	if a.Kind == api.Num || a.Kind == api.Id {
		x, _ := new(big.Rat).SetString(a.S)
		y, _ := new(big.Rat).SetString(b.S)
		return x.Cmp(y)
	}
	return strings.Compare(a.S, b.S)
}

// merged is two tuples in one: each variable of the other one put in at its place; false: it has another value there.
func merged(a, b api.Tuple) (api.Tuple, bool) {
	t := ownTuple(a)
	for _, x := range b.Binds {
		i := 0
		for i < len(t.Binds) && t.Binds[i].Name < x.Name {
			i++
		}
		if i == len(t.Binds) || t.Binds[i].Name != x.Name {
			t.Binds = slices.Insert(t.Binds, i, x)
		} else if t.Binds[i].V != x.V {
			return api.Tuple{}, false
		}
	}
	t.Ids = append(t.Ids, b.Ids...)
	return t, true
}

// model is what a node has to be like.
type model struct{ left, right row }

func (m *model) toLeft(d api.Delta) []api.Delta {
	if !m.left.take(d) {
		return nil
	}
	var l []api.Delta
	for _, t := range m.right.l {
		if one, is := merged(d.T, t); is {
			l = append(l, api.Delta{Add: d.Add, T: one})
		}
	}
	return l
}

func (m *model) toRight(d api.Delta) []api.Delta {
	if !m.right.take(d) {
		return nil
	}
	var l []api.Delta
	for _, t := range m.left.l {
		if one, is := merged(t, d.T); is {
			l = append(l, api.Delta{Add: d.Add, T: one})
		}
	}
	return l
}

// all is what each pair makes, put in at its place.
func (m *model) all() []api.Tuple {
	var l []api.Tuple
	for _, a := range m.left.l {
		for _, b := range m.right.l {
			if t, is := merged(a, b); is {
				l = append(l, t)
			}
		}
	}
	slices.SortFunc(l, against)
	return l
}

// maker makes tuples and calls, of few names, values and numbers, the same ones each time.
type maker struct{ *rand.Rand }

func newMaker(seed int64) maker { return maker{rand.New(rand.NewSource(seed))} }

// pick is one of those.
func pick[T any](m maker, those ...T) T { return those[m.Intn(len(those))] }

// value is one of few; seldom one that is near another in its text.
func (m maker) value() api.Value {
	if m.Intn(4) > 0 {
		return pick(m, num("1"), num("2"))
	}
	return pick(m, near()...)
}

// near is right values whose texts are near one another, or have what stands between a tuple's parts.
func near() []api.Value {
	l := []api.Value{{}, sym("a"), sym("none"), sym("true"), sym("a1"), value(api.Bool, "true"), value(api.Bool, "false"), num("10"), num("12"), num("-1"), num("1/2"), num("9"), value(api.Id, "1"), value(api.Id, "12"), value(api.Id, "999999999")}
	for _, s := range []string{"", " ", "1", "a", "'a", "true", "none", "#1", "1 #1", "1 y=1", "x=1", "x=1 #1 ", "1 #1 #2", "=", "#", "{", "{1}", "{1", "1}", "1/2"} {
		l = append(l, text(s))
	}
	for _, s := range []string{"", "1", "1, 2", "'a", `"a"`, "#1", `""`, `"1 #1"`, `"x=1"`, "none", "true"} {
		l = append(l, value(api.Set, s))
	}
	return l
}

// tuple is one of up to three variables and of up to three facts.
func (m maker) tuple() api.Tuple {
	var t api.Tuple
	for _, name := range []string{"x", "x1", "y"} {
		if m.Intn(2) == 0 {
			t.Binds = append(t.Binds, api.Bind{Name: name, V: m.value()})
		}
	}
	for range m.Intn(4) {
		t.Ids = append(t.Ids, pick(m, 1, 1, 1, 2, 2, 3, 12, 21))
	}
	return t
}

// delta is a tuple's that mostly comes, or one of those that are there.
func (m maker) delta(there []api.Tuple) api.Delta {
	if len(there) > 0 && m.Intn(5) < 2 {
		return api.Delta{Add: m.Intn(4) == 0, T: ownTuple(pick(m, there...))}
	}
	return api.Delta{Add: m.Intn(4) > 0, T: m.tuple()}
}

// step is a call on a node, and tells what that told.
func (m maker) step(b *both) []api.Delta {
	b.t.Helper()
	if m.Intn(2) == 0 {
		return b.left(m.delta(b.m.left.l))
	}
	return b.right(m.delta(b.m.right.l))
}

// keyed is a tuple of a variable that a join goes by, of one of its own, and of a fact.
func (m maker) keyed(name string, fact int) api.Tuple {
	return api.Tuple{Binds: []api.Bind{{Name: "k", V: num(strconv.Itoa(m.Intn(5)))}, {Name: name, V: m.value()}}, Ids: []int{fact}}
}
