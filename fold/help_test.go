package fold_test

import (
	"math"
	"math/big"
	"math/rand"
	"slices"
	"strconv"
	"strings"
	"testing"

	"tribunal/api"
	"tribunal/fold"
	"tribunal/value"
)

const mostSum = 900 // bytes of a sum's text

func num(s string) api.Value  { return api.Value{Kind: api.Num, S: s} }
func text(s string) api.Value { return api.Value{Kind: api.Text, S: s} }
func sym(s string) api.Value  { return api.Value{Kind: api.Sym, S: s} }
func id(s string) api.Value   { return api.Value{Kind: api.Id, S: s} }
func set(s string) api.Value  { return api.Value{Kind: api.Set, S: s} }

func boolean(s string) api.Value { return api.Value{Kind: api.Bool, S: s} }

func whole(n int) api.Value { return num(strconv.Itoa(n)) }

// nums is Nums of those texts.
func nums(texts ...string) []api.Value {
	l := make([]api.Value, len(texts))
	for i, s := range texts {
		l[i] = num(s)
	}
	return l
}

// times is s, n times.
func times(s string, n int) string { return strings.Repeat(s, n) }

// nines is n nines.
func nines(n int) string { return times("9", n) }

// ten is 10 to the power of n.
func ten(n int) string { return "1" + times("0", n) }

// often is v, n times.
func often(v api.Value, n int) []api.Value { return slices.Repeat([]api.Value{v}, n) }

// names is those of the kinds, by their numbers less 1.
func names() []string { return []string{"count", "sum", "min", "max", "avg", "set"} }

// eachKind calls f with each kind, in a test of its name.
func eachKind(t *testing.T, f func(t *testing.T, kind int)) {
	for i, name := range names() {
		t.Run(name, func(t *testing.T) { f(t, i+1) })
	}
}

// isOfNums tells whether a kind takes Nums alone.
func isOfNums(kind int) bool { return kind == api.FoldSum || kind == api.FoldAvg }

// ordered is right values of each sort, in order.
func ordered() []api.Value {
	return []api.Value{
		{},
		num("-" + nines(299)), num("-10"), num("-9"), num("-3/2"), num("-1"), num("-1/2"), num("0"), num("1/" + nines(298)), num("1/3"), num("1/2"), num("1"), num("3/2"), num("2"), num("9"), num("10"), num("18446744073709551616"), num(nines(300)),
		text(""), text(" "), text("-1"), text("10"), text("2"), text("a"), text("a, b"), text("none"), text(times("~", 100)),
		sym("a"), sym("a0"), sym("red"), sym("z" + times("9", 23)),
		boolean("false"), boolean("true"),
		id("0"), id("1"), id("2"), id("9"), id("10"), id("999999999"),
		set(""), set(`"a", 'a`), set("#1"), set("1"), set("1, 2"), set("10"), set("none, 0"),
	}
}

// others is right values that are no Nums.
func others() []api.Value {
	return slices.DeleteFunc(ordered(), func(v api.Value) bool { return v.Kind == api.Num })
}

// wrong is values that are not right, of each sort, and of none.
func wrong() []api.Value {
	return []api.Value{
		{S: " "}, {S: "none"}, {S: "0"},
		num(""), num("-"), num("-0"), num("01"), num("+1"), num("2/4"), num("3/1"), num("1/0"), num("1.5"), num(" 1"), num("1\n"), num("x"), num(nines(301)), num("1/" + nines(299)), num(nines(100000)),
		text("\""), text("a\"b"), text("\n"), text("\u00e9"), text(times("a", 101)),
		sym(""), sym("A"), sym("1a"), sym("a b"), sym("'a"), sym(times("a", 25)),
		boolean(""), boolean("True"), boolean("1"),
		id(""), id("01"), id("-1"), id("#1"), id("1000000000"), id("1/2"),
		set(" "), set("{}"), set("2, 1"), set("1, 1"), set("1,2"), set("{1}"), set("x"), set(times("1, ", 2000) + "1"),
		{Kind: -1}, {Kind: -1, S: "1"}, {Kind: 7}, {Kind: 7, S: "1"}, {Kind: math.MaxInt, S: "1"}, {Kind: math.MinInt, S: "1"},
	}
}

// brief is how a value, perhaps a wrong one, is told to who reads a failure.
func brief(v api.Value) string {
	s := v.S
	if len(s) > 60 {
		s = s[:30] + ".." + s[len(s)-28:]
	}
	return strconv.Itoa(v.Kind) + " " + strconv.Quote(s)
}

// rational is a Num's number, as math/big has it.
func rational(v api.Value) *big.Rat {
	n, _ := new(big.Rat).SetString(v.S)
	return n
}

// model is what a fold has to have: its kind, and its values, in whatever order, each as often as it is in.
type model struct {
	kind int
	l    []api.Value
}

// takes tells whether a value may be put in.
func (m model) takes(v api.Value) bool {
	return value.Right(v) && (!isOfNums(m.kind) || v.Kind == api.Num)
}

// total is the sum of all, which are Nums; false: its text is too long.
func (m model) total() (*big.Rat, bool) {
	all := new(big.Rat)
	for _, v := range m.l {
		all.Add(all, rational(v))
	}
	return all, len(all.RatString()) <= mostSum
}

// result is what Result has to answer.
func (m model) result() api.Value {
	switch {
	case m.kind == api.FoldCount:
		return whole(len(m.l))
	case m.kind == api.FoldSet:
		return m.set()
	case m.kind == api.FoldSum || len(m.l) > 0 && m.kind == api.FoldAvg:
		return m.number()
	case len(m.l) == 0:
		return api.Value{}
	case m.kind == api.FoldMin:
		return slices.MinFunc(m.l, value.Cmp)
	}
	return slices.MaxFunc(m.l, value.Cmp)
}

// number is a Num of the sum, or of the average, of all; None, if it is too long.
func (m model) number() api.Value {
	all, fit := m.total()
	if m.kind == api.FoldAvg {
		all.Quo(all, big.NewRat(int64(len(m.l)), 1))
	}
	if s := all.RatString(); fit && len(s) <= api.MaxNum {
		return num(s)
	}
	return api.Value{}
}

// set is the set of all that are no sets; None, if it is too long.
func (m model) set() api.Value {
	l := slices.DeleteFunc(slices.Clone(m.l), func(v api.Value) bool { return v.Kind == api.Set })
	slices.SortFunc(l, value.Cmp)
	if s := written(slices.Compact(l)); len(s) <= api.MaxSet {
		return set(s)
	}
	return api.Value{}
}

// written is what values write in a set, in the order in which they come.
func written(l []api.Value) string {
	texts := make([]string, len(l))
	for i, v := range l {
		texts[i] = value.Show(v)
	}
	return strings.Join(texts, ", ")
}

// both is a fold, and what it has to be.
type both struct {
	fold  *fold.Fold
	model model
}

// newBoth is a fold of a kind, of those of l that it takes.
func newBoth(kind int, l ...api.Value) *both {
	b := &both{fold.New(kind), model{kind: kind}}
	for _, v := range l {
		if b.model.takes(v) {
			b.fold.Add(v)
			b.model.l = append(b.model.l, v)
		}
	}
	return b
}

// add fails, unless a value is put in that may be, and no other one.
func (b *both) add(t *testing.T, v api.Value) {
	t.Helper()
	takes := b.model.takes(v)
	if got := b.fold.Add(v); got != takes {
		t.Fatalf("Add of %s: got %v, want %v", brief(v), got, takes)
	}
	if takes {
		b.model.l = append(b.model.l, v)
	}
}

// del fails, unless a value is taken out that is in, and none that is not.
func (b *both) del(t *testing.T, v api.Value) {
	t.Helper()
	at := slices.Index(b.model.l, v)
	if got := b.fold.Del(v); got != (at >= 0) {
		t.Fatalf("Del of %s: got %v, want %v", brief(v), got, at >= 0)
	}
	if at >= 0 {
		b.model.l = slices.Delete(slices.Clone(b.model.l), at, at+1)
	}
}

// check fails, unless a fold is in all as it has to be.
func (b *both) check(t *testing.T) {
	t.Helper()
	if got := b.fold.Many(); got != len(b.model.l) {
		t.Fatalf("Many: got %d, want %d", got, len(b.model.l))
	}
	if got, want := b.fold.Result(), b.model.result(); got != want {
		t.Fatalf("Result of %d: got %s, want %s", len(b.model.l), brief(got), brief(want))
	}
}

// checkResult fails, unless a fold of a kind tells that of those values.
func checkResult(t *testing.T, kind int, l []api.Value, want api.Value) {
	t.Helper()
	b := newBoth(kind, l...)
	b.check(t)
	if got := b.fold.Result(); got != want {
		t.Errorf("%s of %d values: got %s, want %s", names()[kind-1], len(l), brief(got), brief(want))
	}
}

// values makes values, the same ones each time.
type values struct{ *rand.Rand }

func newValues(seed int64) values { return values{rand.New(rand.NewSource(seed))} }

// num is a right Num, mostly a short one.
func (r values) num() api.Value {
	switch r.Intn(12) {
	case 0:
		return num([]string{nines(300), "-" + nines(299), "1/" + nines(298), "1/" + ten(297), nines(149) + "/" + ten(149), ten(299)}[r.Intn(6)])
	case 1, 2, 3:
		return whole(r.Intn(21) - 10)
	}
	return num(big.NewRat(r.Int63n(200)-100, 1+r.Int63n(12)).RatString())
}

// right is a right value that a kind takes.
func (r values) right(kind int) api.Value {
	if isOfNums(kind) || r.Intn(3) == 0 {
		return r.num()
	}
	if r.Intn(3) == 0 {
		return others()[r.Intn(len(others()))]
	}
	return []api.Value{sym("s" + strconv.Itoa(r.Intn(30))), text(strconv.Itoa(r.Intn(30))), id(strconv.Itoa(r.Intn(30)))}[r.Intn(3)]
}

// list is n right values that a kind takes, some of them more than once.
func (r values) list(kind, n int) []api.Value {
	l := make([]api.Value, n)
	for i := range l {
		l[i] = r.right(kind)
		if i > 0 && r.Intn(5) == 0 {
			l[i] = l[r.Intn(i)]
		}
	}
	return l
}

// mixed is l in another order.
func (r values) mixed(l []api.Value) []api.Value {
	l = slices.Clone(l)
	r.Shuffle(len(l), func(i, j int) { l[i], l[j] = l[j], l[i] })
	return l
}
