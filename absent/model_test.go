package absent_test

import (
	"math/big"
	"math/rand"
	"slices"
	"strings"

	"tribunal/api"
)

// row is tuples, none twice, in order. It is another telling, without a map, join and bind.
type row struct{ l []api.Tuple }

// place is that of the first tuple that does not stand ahead of t, and whether it is t.
func (r *row) place(t api.Tuple) (int, bool) {
	for i, other := range r.l {
		if c := against(other, t); c >= 0 {
			return i, c == 0
		}
	}
	return len(r.l), false
}

func (r *row) take(d api.Delta) bool {
	i, there := r.place(d.T)
	if there == d.Add {
		return false
	}
	if d.Add {
		r.l = slices.Insert(r.l, i, ownTuple(d.T))
	} else {
		r.l = slices.Delete(r.l, i, i+1)
	}
	return true
}

// against is -1, 0 or 1: by the facts, then by the variables, as the words of chapter 14 go.
func against(a, b api.Tuple) int {
	for i := range min(len(a.Ids), len(b.Ids)) {
		if a.Ids[i] != b.Ids[i] {
			return sign(a.Ids[i] > b.Ids[i])
		}
	}
	if len(a.Ids) != len(b.Ids) {
		return sign(len(a.Ids) > len(b.Ids))
	}
	for i := range min(len(a.Binds), len(b.Binds)) {
		x, y := a.Binds[i], b.Binds[i]
		if x.Name != y.Name {
			return sign(x.Name > y.Name)
		}
		if x.V != y.V {
			return values(x.V, y.V)
		}
	}
	if len(a.Binds) != len(b.Binds) {
		return sign(len(a.Binds) > len(b.Binds))
	}
	return 0
}

func sign(behind bool) int {
	if behind {
		return 1
	}
	return -1
}

// values is the order of right ones, as the words of chapter 4 go.
func values(a, b api.Value) int {
	if a.Kind != b.Kind {
		return sign(a.Kind > b.Kind)
	}
	if a.Kind == api.Num || a.Kind == api.Id {
		x, _ := new(big.Rat).SetString(a.S)
		y, _ := new(big.Rat).SetString(b.S)
		return x.Cmp(y)
	}
	return strings.Compare(a.S, b.S)
}

// agrees tells whether no variable of both has unlike values.
func agrees(a, b api.Tuple) bool {
	for _, x := range a.Binds {
		for _, y := range b.Binds {
			if x.Name == y.Name && x.V != y.V {
				return false
			}
		}
	}
	return true
}

// model is what a node has to be like.
type model struct{ left, right row }

// free tells whether none of the right row agrees with a tuple, but for one that is left out.
func (m *model) free(t api.Tuple, but api.Tuple) bool {
	return !slices.ContainsFunc(m.right.l, func(other api.Tuple) bool { return agrees(t, other) && !alike(other, but) })
}

// nowhere is a tuple that stands in no row.
func nowhere() api.Tuple { return api.Tuple{Ids: []int{-1}} }

func (m *model) toLeft(d api.Delta) []api.Delta {
	if !m.left.take(d) || !m.free(d.T, nowhere()) {
		return nil
	}
	return []api.Delta{d}
}

func (m *model) toRight(d api.Delta) []api.Delta {
	if !m.right.take(d) {
		return nil
	}
	var l []api.Delta
	for _, t := range m.left.l {
		if agrees(t, d.T) && m.free(t, d.T) {
			l = append(l, api.Delta{Add: !d.Add, T: t})
		}
	}
	return l
}

func (m *model) all() []api.Tuple {
	var l []api.Tuple
	for _, t := range m.left.l {
		if m.free(t, nowhere()) {
			l = append(l, t)
		}
	}
	return l
}

// maker makes tuples and calls, of few names, values and numbers, the same ones each time.
type maker struct{ *rand.Rand }

func newMaker(seed int64) maker { return maker{rand.New(rand.NewSource(seed))} }

// pick is one of those.
func pick[T any](m maker, those ...T) T { return those[m.Intn(len(those))] }

// value is one of few; seldom one that is near another in its text.
func (m maker) value() api.Value {
	if m.Intn(5) > 0 {
		return pick(m, num("1"), num("2"), num("3"))
	}
	return pick(m, near()...)
}

// near is right values whose texts are near one another, or have what stands between a tuple's parts.
func near() []api.Value {
	l := []api.Value{{}, sym("a"), sym("none"), sym("true"), sym("a1"), value(api.Bool, "true"), value(api.Bool, "false"), num("10"), num("12"), num("-1"), num("1/2"), num("9"), value(api.Id, "1"), value(api.Id, "12"), value(api.Id, "999999999")}
	for _, s := range []string{"", " ", "1", "a", "'a", "true", "none", "#1", "1 #1", "1 y=1", "x=1", "x=1 #1 ", "1 #1 #2", "=", "#", "{", "{1}", "{1", "1}", "1/2"} {
		l = append(l, text(s))
	}
	for _, s := range []string{"", "1", "1, 2", "'a", `"a"`, "#1", `""`, `"1 #1"`, `"x=1"`, "none", "true"} {
		l = append(l, value(api.Set, s))
	}
	return l
}

// tuple is one of up to three variables and of up to three facts: seldom of no variables, with which all agree.
func (m maker) tuple() api.Tuple {
	var t api.Tuple
	for _, name := range []string{"x", "x1", "y"} {
		if m.Intn(4) > 0 {
			t.Binds = append(t.Binds, api.Bind{Name: name, V: m.value()})
		}
	}
	for range m.Intn(4) {
		t.Ids = append(t.Ids, pick(m, 1, 1, 1, 2, 2, 3, 12, 21))
	}
	return t
}

// delta is a tuple's that mostly comes, or one of those that are there.
func (m maker) delta(there []api.Tuple) api.Delta {
	if len(there) > 0 && m.Intn(5) < 2 {
		return api.Delta{Add: m.Intn(4) == 0, T: ownTuple(pick(m, there...))}
	}
	return api.Delta{Add: m.Intn(4) > 0, T: m.tuple()}
}

// step is a call on a node, and tells what that told. Few stand on the right, so that some of the left ones are told.
func (m maker) step(b *both) []api.Delta {
	b.t.Helper()
	x := m.turn(b)
	return b.turn(x)
}

// turn is a call of one side.
type turn struct {
	left bool
	d    api.Delta
}

func (m maker) turn(b *both) turn {
	if m.Intn(2) == 0 {
		return turn{true, m.delta(b.m.left.l)}
	}
	if there := b.m.right.l; len(there) > 5 {
		return turn{false, drop(ownTuple(pick(m, there...)))}
	}
	return turn{false, m.delta(b.m.right.l)}
}

func (b *both) turn(x turn) []api.Delta {
	b.t.Helper()
	if x.left {
		return b.left(x.d)
	}
	return b.right(x.d)
}

// come is calls by which unlike tuples come, on both sides, fewer of them on the right.
func (m maker) come(many int) []turn {
	var l []turn
	var rows [2]row
	for len(l) < many {
		x := turn{m.Intn(4) > 0, put(m.tuple())}
		if rows[brow(x)].take(x.d) {
			l = append(l, x)
		}
	}
	return l
}

// brow is 0 of a right one, and 1 of a left one.
func brow(x turn) int {
	if x.left {
		return 1
	}
	return 0
}

// pass has other tuples come and go, of those that are not there.
func (m maker) pass(b *both) {
	b.t.Helper()
	for range m.Intn(3) {
		x := turn{m.Intn(2) == 0, put(m.tuple())}
		if m.Intn(4) == 0 {
			x.d.T.Binds = nil // so that all agree with it
		}
		was := b.n.Held()
		b.turn(x)
		if b.n.Held() > was {
			b.turn(turn{x.left, drop(x.d.T)})
		}
	}
}
