package tree_test

import (
	"math"
	"math/big"
	"math/bits"
	"math/rand"
	"slices"
	"strconv"
	"strings"
	"testing"

	"tribunal/api"
	"tribunal/tree"
	"tribunal/value"
)

const mostSum = 900 // bytes of a sum's text

func num(s string) api.Value  { return api.Value{Kind: api.Num, S: s} }
func text(s string) api.Value { return api.Value{Kind: api.Text, S: s} }
func sym(s string) api.Value  { return api.Value{Kind: api.Sym, S: s} }
func id(s string) api.Value   { return api.Value{Kind: api.Id, S: s} }
func set(s string) api.Value  { return api.Value{Kind: api.Set, S: s} }

func boolean(s string) api.Value { return api.Value{Kind: api.Bool, S: s} }

func whole(n int) api.Value { return num(strconv.Itoa(n)) }

// times is s, n times.
func times(s string, n int) string { return strings.Repeat(s, n) }

// ten is 10 to the power of n.
func ten(n int) string { return "1" + times("0", n) }

// nines is n nines.
func nines(n int) string { return times("9", n) }

// ordered is right values of each kind, in order.
func ordered() []api.Value {
	return []api.Value{
		{},
		num("-" + nines(299)), num("-10"), num("-9"), num("-3/2"), num("-1"), num("-1/2"), num("0"), num("1/" + nines(298)), num("1/3"), num("1/2"), num("1"), num("3/2"), num("2"), num("9"), num("10"), num("18446744073709551616"), num(nines(300)),
		text(""), text(" "), text("-1"), text("10"), text("2"), text("a"), text("a, b"), text("b"), text("none"), text(times("~", 100)),
		sym("a"), sym("a0"), sym("b"), sym("red"), sym("z" + times("9", 23)),
		boolean("false"), boolean("true"),
		id("0"), id("1"), id("2"), id("9"), id("10"), id("999999999"),
		set(""), set(`"a", 'a`), set("#1"), set("1"), set("1, 2"), set("10"), set("2"), set("none, 0"),
	}
}

// wrong is values that are not right, of each kind, and of none.
func wrong() []api.Value {
	return []api.Value{
		{S: " "}, {S: "none"}, {S: "0"},
		num(""), num("-"), num("-0"), num("01"), num("+1"), num("2/4"), num("3/1"), num("1/0"), num("1.5"), num(" 1"), num("1\n"), num("x"), num(nines(301)), num("1/" + nines(299)), num(nines(100000)),
		text("\""), text("a\"b"), text("\n"), text("\x7f"), text("\u00e9"), text("\xff"), text(times("a", 101)),
		sym(""), sym("A"), sym("1a"), sym("a b"), sym("'a"), sym("a-b"), sym(times("a", 25)),
		boolean(""), boolean("True"), boolean("yes"), boolean("1"),
		id(""), id("01"), id("-1"), id("#1"), id("1000000000"), id("1/2"),
		set(" "), set("{}"), set("2, 1"), set("1, 1"), set("1,2"), set("{1}"), set("x"), set(times("\"", 4000)), set(times("1, ", 2000) + "1"),
		{Kind: -1}, {Kind: -1, S: "1"}, {Kind: 7}, {Kind: 7, S: "1"}, {Kind: math.MaxInt, S: "a"}, {Kind: math.MinInt, S: "a"},
	}
}

// brief is how a value, perhaps a wrong one, is told to who reads a failure.
func brief(v api.Value) string {
	s := v.S
	if len(s) > 60 {
		s = s[:30] + ".." + s[len(s)-28:]
	}
	return strconv.Itoa(v.Kind) + " " + strconv.Quote(s)
}

// model is what a tree has to be: all of its values, in order, each as often as it is in.
type model []api.Value

func (m model) place(v api.Value) (int, bool) { return slices.BinarySearchFunc(m, v, value.Cmp) }

func (m model) with(v api.Value) model {
	at, _ := m.place(v)
	return slices.Insert(m, at, v)
}

// without is m with v once less; false: it is not in.
func (m model) without(v api.Value) (model, bool) {
	at, is := m.place(v)
	if !is {
		return m, false
	}
	return slices.Delete(m, at, at+1), true
}

func (m model) count(v api.Value) int {
	n := 0
	for _, own := range m {
		if own == v {
			n++
		}
	}
	return n
}

func (m model) rank(v api.Value) int {
	n := 0
	for _, own := range m {
		if value.Right(v) && value.Cmp(own, v) < 0 {
			n++
		}
	}
	return n
}

func (m model) unlike() []api.Value { return slices.Compact(slices.Clone([]api.Value(m))) }

// sum is what Sum has to answer, as math/big has it.
func (m model) sum() (string, api.Errno) {
	all := new(big.Rat)
	for _, v := range m {
		if v.Kind == api.Num {
			n, _ := new(big.Rat).SetString(v.S)
			all.Add(all, n)
		}
	}
	if s := all.RatString(); len(s) <= mostSum {
		return s, api.OK
	}
	return "", api.ErrTooMany
}

// checkSum fails, unless Sum answers what it has to.
func checkSum(t *testing.T, own *tree.Tree, m model) {
	t.Helper()
	s, err := own.Sum()
	if want, wantErr := m.sum(); s != want || err != wantErr {
		t.Fatalf("Sum: got %s, %d, want %s, %d", brief(num(s)), err, brief(num(want)), wantErr)
	}
}

// checkValue fails, unless what is told of one value is as it has to be.
func checkValue(t *testing.T, own *tree.Tree, m model, v api.Value) {
	t.Helper()
	if got, want := own.Count(v), m.count(v); got != want {
		t.Fatalf("Count of %s: got %d, want %d", brief(v), got, want)
	}
	if got, want := own.Rank(v), m.rank(v); got != want {
		t.Fatalf("Rank of %s: got %d, want %d", brief(v), got, want)
	}
}

// checkAt fails, unless At answers what it has to.
func checkAt(t *testing.T, own *tree.Tree, m model, k int) {
	t.Helper()
	var want api.Value
	is := k >= 0 && k < len(m)
	if is {
		want = m[k]
	}
	if got, ok := own.At(k); got != want || ok != is {
		t.Fatalf("At %d of %d: got %s, %v, want %s, %v", k, len(m), brief(got), ok, brief(want), is)
	}
}

// checkSizes fails, unless the tree has as many values as it has to, and is flat.
func checkSizes(t *testing.T, own *tree.Tree, many, kinds int) {
	t.Helper()
	if own.Many() != many || own.Kinds() != kinds {
		t.Fatalf("got %d values, of %d kinds, want %d, of %d", own.Many(), own.Kinds(), many, kinds)
	}
	if deep, digits := own.Deep(), bits.Len(uint(kinds)); deep < digits || deep > 2*digits {
		t.Fatalf("%d unlike ones: deep %d, of %d digits", kinds, deep, digits)
	}
}

// checkTree fails, unless a tree is in all as it has to be.
func checkTree(t *testing.T, own *tree.Tree, m model) {
	t.Helper()
	unlike := m.unlike()
	checkSizes(t, own, len(m), len(unlike))
	if got := own.List(); !slices.Equal(got, unlike) {
		t.Fatalf("List: got %v, want %v", got, unlike)
	}
	for _, k := range []int{math.MinInt, -len(m) - 1, -len(m), -2, len(m) + 1, 2 * len(m), 1 << 31, math.MaxInt} {
		checkAt(t, own, m, k)
	}
	for k := -1; k <= len(m); k++ {
		checkAt(t, own, m, k)
	}
	for _, v := range unlike {
		checkValue(t, own, m, v)
	}
	checkSum(t, own, m)
}

// both is a tree, and what it has to be.
type both struct {
	tree  *tree.Tree
	model model
}

func newBoth(l ...api.Value) *both {
	b := &both{tree: tree.New()}
	for _, v := range l {
		b.tree.Add(v)
		b.model = b.model.with(v)
	}
	return b
}

// add fails, unless a value is put in that is right, and none that is not.
func (b *both) add(t *testing.T, v api.Value) {
	t.Helper()
	right := value.Right(v)
	if got := b.tree.Add(v); got != right {
		t.Fatalf("Add of %s: got %v, want %v", brief(v), got, right)
	}
	if right {
		b.model = b.model.with(v)
	}
}

// del fails, unless a value is taken out that is in, and none that is not.
func (b *both) del(t *testing.T, v api.Value) {
	t.Helper()
	less, is := b.model.without(v)
	if got := b.tree.Del(v); got != is {
		t.Fatalf("Del of %s: got %v, want %v", brief(v), got, is)
	}
	b.model = less
}

func (b *both) check(t *testing.T) {
	t.Helper()
	checkTree(t, b.tree, b.model)
}

// values makes values, the same ones each time.
type values struct{ *rand.Rand }

func newValues(seed int64) values { return values{rand.New(rand.NewSource(seed))} }

// right is a right value, one of few, or a number, or another one.
func (r values) right() api.Value {
	switch all := ordered(); r.Intn(4) {
	case 0:
		return all[r.Intn(len(all))]
	case 1:
		return num(big.NewRat(r.Int63n(200)-100, 1+r.Int63n(12)).RatString())
	case 2:
		return whole(r.Intn(40))
	}
	return []api.Value{sym("s" + strconv.Itoa(r.Intn(30))), text(strconv.Itoa(r.Intn(30))), id(strconv.Itoa(r.Intn(30)))}[r.Intn(3)]
}

// list is n right values, some of them more than once.
func (r values) list(n int) []api.Value {
	l := make([]api.Value, n)
	for i := range l {
		l[i] = r.right()
	}
	return l
}

// mixed is l in another order.
func (r values) mixed(l []api.Value) []api.Value {
	l = slices.Clone(l)
	r.Shuffle(len(l), func(i, j int) { l[i], l[j] = l[j], l[i] })
	return l
}

// row is whole numbers from 0 on, in order.
func row(n int) []api.Value {
	l := make([]api.Value, n)
	for i := range l {
		l[i] = whole(i)
	}
	return l
}

// reversed is l, the other way round.
func reversed(l []api.Value) []api.Value {
	l = slices.Clone(l)
	slices.Reverse(l)
	return l
}
