package group_test

import (
	"fmt"
	"math/big"
	"math/rand"
	"slices"
	"strings"
	"testing"

	"tribunal/api"
)

// row is tuples, none twice, in order. It is another telling, without a map, fold, bind and join.
type row struct{ l []api.Tuple }

// place is that of the first tuple that does not stand ahead of t, and whether it is t.
func (r *row) place(t api.Tuple) (int, bool) {
	return slices.BinarySearchFunc(r.l, t, against)
}

func (r *row) take(d api.Delta) bool {
	i, there := r.place(d.T)
	if there == d.Add {
		return false
	}
	if d.Add {
		r.l = slices.Insert(r.l, i, ownTuple(d.T))
	} else {
		r.l = slices.Delete(r.l, i, i+1)
	}
	return true
}

// against is -1, 0 or 1: by the facts, then by the variables, as the words of chapter 14 go.
func against(a, b api.Tuple) int {
	for i := range min(len(a.Ids), len(b.Ids)) {
		if a.Ids[i] != b.Ids[i] {
			return sign(a.Ids[i] > b.Ids[i])
		}
	}
	if len(a.Ids) != len(b.Ids) {
		return sign(len(a.Ids) > len(b.Ids))
	}
	for i := range min(len(a.Binds), len(b.Binds)) {
		x, y := a.Binds[i], b.Binds[i]
		if x.Name != y.Name {
			return sign(x.Name > y.Name)
		}
		if x.V != y.V {
			return values(x.V, y.V)
		}
	}
	if len(a.Binds) != len(b.Binds) {
		return sign(len(a.Binds) > len(b.Binds))
	}
	return 0
}

func sign(behind bool) int {
	if behind {
		return 1
	}
	return -1
}

// rational is a number, as math/big has it.
func rational(v api.Value) *big.Rat {
	n, _ := new(big.Rat).SetString(v.S)
	return n
}

// values is the order of right ones, as the words of chapter 4 go.
func values(a, b api.Value) int {
	if a.Kind != b.Kind {
		return sign(a.Kind > b.Kind)
	}
	if a.Kind == api.Num || a.Kind == api.Id {
		return rational(a).Cmp(rational(b))
	}
	return strings.Compare(a.S, b.S)
}

// model is what a node has to be like: it has its tuples alone, and works all out anew.
type model struct {
	kind      int
	name, arg string
	by        []string
	row       row
}

// of is a variable's value; false: it has none.
func of(t api.Tuple, name string) (api.Value, bool) {
	i := slices.IndexFunc(t.Binds, func(b api.Bind) bool { return b.Name == name })
	if i < 0 {
		return api.Value{}, false
	}
	return t.Binds[i].V, true
}

// counts is a tuple's value of arg, and its key, with the names in order; false: it does not count.
func (m *model) counts(t api.Tuple) (api.Value, api.Tuple, bool) {
	v, counts := of(t, m.arg)
	if isOfNums(m.kind) && v.Kind != api.Num {
		return v, api.Tuple{}, false
	}
	var key api.Tuple
	for _, b := range t.Binds {
		if slices.Contains(m.by, b.Name) {
			key.Binds = append(key.Binds, b)
		}
	}
	return v, key, counts && len(key.Binds) == len(m.by)
}

// group is what comes of the group of a key; false: it is not there.
func (m *model) group(key api.Tuple) (api.Tuple, bool) {
	var l []api.Value
	for _, t := range m.row.l {
		if v, own, counts := m.counts(t); counts && alike(own, key) {
			l = append(l, v)
		}
	}
	binds := append(slices.Clone(key.Binds), api.Bind{Name: m.name, V: folded(m.kind, l)})
	slices.SortFunc(binds, func(a, b api.Bind) int { return strings.Compare(a.Name, b.Name) })
	return api.Tuple{Binds: binds}, len(l) > 0 || len(m.by) == 0
}

func (m *model) take(d api.Delta) []api.Delta {
	_, key, counts := m.counts(d.T)
	ahead, was := m.group(key)
	if !m.row.take(d) || !counts {
		return nil
	}
	behind, is := m.group(key)
	switch {
	case was && is && alike(ahead, behind):
		return nil
	case was && is:
		return []api.Delta{drop(ahead), put(behind)}
	case was:
		return []api.Delta{drop(ahead)}
	}
	return []api.Delta{put(behind)}
}

func (m *model) all() []api.Tuple {
	var r row
	if len(m.by) == 0 {
		one, _ := m.group(api.Tuple{})
		return []api.Tuple{one}
	}
	for _, t := range m.row.l {
		if _, key, counts := m.counts(t); counts {
			one, _ := m.group(key)
			r.take(put(one))
		}
	}
	return r.l
}

// folded is what comes of values, as the words of chapter 6 go.
func folded(kind int, l []api.Value) api.Value {
	l = slices.Clone(l)
	slices.SortStableFunc(l, values)
	switch {
	case kind == api.FoldCount:
		return num(fmt.Sprint(len(l)))
	case kind == api.FoldSet:
		return set(l)
	case kind == api.FoldSum:
		return number(sum(l))
	case len(l) == 0:
		return api.Value{}
	case kind == api.FoldMin:
		return l[0]
	case kind == api.FoldMax:
		return l[len(l)-1]
	}
	return number(sum(l).Mul(sum(l), big.NewRat(1, int64(len(l)))))
}

func sum(l []api.Value) *big.Rat {
	all := new(big.Rat)
	for _, v := range l {
		all.Add(all, rational(v))
	}
	return all
}

// number is none, if a value has no room for it.
func number(n *big.Rat) api.Value {
	if s := n.RatString(); len(s) <= api.MaxNum {
		return num(s)
	}
	return api.Value{}
}

// set is that of those of a sorted list that are no sets; none, if it is too long.
func set(l []api.Value) api.Value {
	var texts []string
	for _, v := range l {
		if s := written(v); v.Kind != api.Set && !slices.Contains(texts, s) {
			texts = append(texts, s)
		}
	}
	if s := strings.Join(texts, ", "); len(s) <= api.MaxSet {
		return value(api.Set, s)
	}
	return api.Value{}
}

// maker makes tuples and calls, of few names, values and numbers, the same ones each time.
type maker struct{ *rand.Rand }

func newMaker(seed int64) maker { return maker{rand.New(rand.NewSource(seed))} }

// pick is one of those.
func pick[T any](m maker, those ...T) T { return those[m.Intn(len(those))] }

// near is right values whose texts are near one another, or have what stands between a tuple's parts.
func near() []api.Value {
	l := []api.Value{{}, sym("a"), sym("none"), sym("true"), sym("a1"), value(api.Bool, "true"), value(api.Bool, "false"), num("10"), num("12"), num("-1"), num("1/2"), num("9"), value(api.Id, "1"), value(api.Id, "12"), value(api.Id, "999999999")}
	for _, s := range []string{"", " ", "1", "a", "'a", "true", "none", "#1", "1 l=1", "1 x=1", "k=1", "x=1 #1 ", "=", "#", "{", "{1}", "{1", "1}", "1/2"} {
		l = append(l, text(s))
	}
	for _, s := range []string{"", "1", "1, 2", "'a", `"a"`, "#1", `""`, `"1 #1"`, `"x=1"`, "none", "true"} {
		l = append(l, value(api.Set, s))
	}
	return l
}

// folded is a value to be folded: mostly a number, some of which have no room beside each other.
func (m maker) folded() api.Value {
	switch m.Intn(12) {
	case 0, 1:
		return pick(m, near()...)
	case 2:
		return pick(m, num(nines(300)), num("-"+nines(299)), num("1/"+nines(298)), num("1/1"+strings.Repeat("0", 297)))
	}
	return num(pick(m, "0", "0", "1", "2", "3", "-1", "-2", "1/2", "1/3", "-5/6"))
}

// tuple has a value to be folded, a few for keys, and one more; seldom it lacks one of these.
func (m maker) tuple() api.Tuple {
	var t api.Tuple
	for _, name := range []string{"k", "l", "x", "y"} {
		if m.Intn(8) == 0 {
			continue
		}
		v := pick(m, num("1"), num("2"), text("1"))
		if name == "x" {
			v = m.folded()
		} else if m.Intn(12) == 0 {
			v = pick(m, near()...)
		}
		t.Binds = append(t.Binds, api.Bind{Name: name, V: v})
	}
	for range m.Intn(3) {
		t.Ids = append(t.Ids, pick(m, 1, 1, 2, 3, 12, 21))
	}
	return t
}

// delta is a tuple's that mostly comes, or one of those that are there; few stay there.
func (m maker) delta(there []api.Tuple) api.Delta {
	if len(there) > 0 && m.Intn(12) < len(there) {
		return api.Delta{Add: m.Intn(6) == 0, T: ownTuple(pick(m, there...))}
	}
	return api.Delta{Add: m.Intn(6) > 0, T: m.tuple()}
}

// step is a call on a node, and tells what that told.
func (m maker) step(b *both) []api.Delta {
	b.t.Helper()
	return b.take(m.delta(b.m.row.l))
}

// come is unlike tuples, as many as asked for.
func (m maker) come(many int) []api.Tuple {
	var l []api.Tuple
	var r row
	for len(l) < many {
		if d := put(m.tuple()); r.take(d) {
			l = append(l, d.T)
		}
	}
	return l
}

// pass has other tuples come and go, of those that are not there.
func (m maker) pass(b *both) {
	b.t.Helper()
	for range m.Intn(3) {
		one := m.tuple()
		if _, there := b.m.row.place(one); !there {
			b.take(put(one))
			b.take(drop(one))
		}
	}
}

// shape is a node's variables.
type shape struct {
	name, arg string
	by        []string
}

// shapes is by none, one, two and three variables, with the result at each place, and with names that tuples have themselves.
func shapes() []shape {
	return []shape{
		{"s", "x", nil}, {"x", "x", nil}, {"y", "x", []string{}}, {"s", "x", []string{"k"}}, {"a", "x", []string{"k"}}, {"x", "x", []string{"k"}}, {"y", "x", []string{"l"}},
		{"s", "x", []string{"l", "k"}}, {"a", "x", []string{"k", "l"}}, {"kk", "x", []string{"k", "l"}}, {"l", "x", []string{"y", "k"}}, {"x", "x", []string{"y", "l", "k"}}, {"s", "x", []string{"x"}}, {"s", "x", []string{"x", "k"}},
	}
}

// eachShape calls f with a new node of each kind and shape.
func eachShape(t testing.TB, f func(b *both)) {
	t.Helper()
	for _, kind := range names() {
		for _, s := range shapes() {
			f(node(t, kind, s.name, s.arg, s.by...))
		}
	}
}
