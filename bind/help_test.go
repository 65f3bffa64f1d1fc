package bind_test

import (
	"fmt"
	"math"
	"strconv"
	"strings"
	"testing"

	"tribunal/api"
	"tribunal/bind"
	"tribunal/schema"
)

func num(s string) api.Value  { return api.Value{Kind: api.Num, S: s} }
func text(s string) api.Value { return api.Value{Kind: api.Text, S: s} }
func sym(s string) api.Value  { return api.Value{Kind: api.Sym, S: s} }
func id(s string) api.Value   { return api.Value{Kind: api.Id, S: s} }
func set(s string) api.Value  { return api.Value{Kind: api.Set, S: s} }

func boolean(s string) api.Value { return api.Value{Kind: api.Bool, S: s} }

// times is s, n times.
func times(s string, n int) string { return strings.Repeat(s, n) }

func to(name string, v api.Value) api.Bind { return api.Bind{Name: name, V: v} }

// of is a tuple on no facts.
func of(l ...api.Bind) api.Tuple { return api.Tuple{Binds: l} }

// on is a tuple on those facts.
func on(t api.Tuple, ids ...int) api.Tuple {
	t.Ids = ids
	return t
}

// ones is a tuple on no facts, of variables whose values are numbers: "x=1 y=2".
func ones(s string) api.Tuple {
	var t api.Tuple
	for one := range strings.FieldsSeq(s) {
		name, n, _ := strings.Cut(one, "=")
		t.Binds = append(t.Binds, to(name, num(n)))
	}
	return t
}

// brief is how a thing is told, cut if it is long.
func brief(a any) string {
	s := fmt.Sprintf("%+v", a)
	if len(s) > 600 {
		return s[:300] + ".." + s[len(s)-298:]
	}
	return s
}

// rightValues is right values of each kind: its edges, and some texts that stand in several kinds.
func rightValues() []api.Value {
	return []api.Value{
		{},
		num("0"), num("1"), num("10"), num("9"), num("-3/2"), num("1/2"), num(times("9", 300)), num("-" + times("9", 299)),
		text(""), text(" "), text("a"), text("1"), text("true"), text("none"), text("a, b"), text("x=1 #3 "), text(" y='z "), text("#1"), text(times("~", 100)),
		sym("a"), sym("true"), sym("none"), sym("red"), sym("z" + times("9", 23)),
		boolean("true"), boolean("false"),
		id("0"), id("1"), id("10"), id("9"), id("999999999"),
		set(""), set("1"), set("1, 2"), set("none, 1, 'a"), set(`"a, b", 'a, #1`), set("#1"), set("none"),
	}
}

// wrongValues is values of each kind, and of none, that are not right.
func wrongValues() []api.Value {
	return []api.Value{
		{S: "none"}, {S: " "},
		num(""), num("01"), num("-0"), num("2/4"), num("1/0"), num("a"), num(" 1"), num(times("9", 301)),
		text("\n"), text(`"`), text("\x7f"), text("\u00e9"), text(times("~", 101)),
		sym(""), sym("A"), sym("1"), sym("a b"), sym("'a"), sym(times("a", 25)),
		boolean(""), boolean("True"), boolean("1"),
		id(""), id("01"), id("-1"), id("#1"), id("1000000000"),
		set("2, 1"), set("1, 1"), set("1,2"), set("{}"), set("x"), set(times("'a, ", 1400)),
		{Kind: -1}, {Kind: 7}, {Kind: 7, S: "1"}, {Kind: math.MinInt, S: "a"}, {Kind: math.MaxInt, S: "true"}, {Kind: 1<<32 + 1, S: "1"},
	}
}

// rightNames is names, in order.
func rightNames() []string {
	return []string{"a", "a0", "a09", "a1", "aa", times("a", 24), "as", "b", "none", "not", "rule", "true", "x", "x1", "x10", "x2", "z", "z" + times("9", 23), "zz"}
}

// noNames is texts that are no names, for one reason each.
func noNames() []string {
	return []string{"", "\x00", "\n", " ", " a", "#1", "'a", "(a)", "-a", "0", "0a", "1a", "9", "9z", "=", "?a", "A", "Z", "_a", "a ", "a-b", "a=", "aB", "a\u00e9", times("b", 25), "b" + times("0", 24), times("c", 1000), "z\xff", "\u00e9", "\xff"}
}

// rightIds is facts' numbers that a tuple may stand on, and wrongIds is some that it may not.
func rightIds() []int {
	return []int{1, 2, 9, 10, 77, 999999999, 1000000000, math.MaxInt32, 1 << 32, 1<<32 + 1, math.MaxInt}
}

func wrongIds() []int {
	return []int{0, -1, -2, -10, -999999999, math.MinInt32, -1 << 32, math.MinInt + 1, math.MinInt}
}

// few is templates with slots of each type, with one, and with none; two of them are of the same slots.
func few() []api.Template {
	return []api.Template{
		{Name: "order", Slots: []api.Field{{Name: "by", Type: api.Sym}, {Name: "total", Type: api.Num}, {Name: "paid", Type: api.Bool}, {Name: "note", Type: api.Text}}},
		{Name: "empty"},
		{Name: "pair", Slots: []api.Field{{Name: "a", Type: api.Num}, {Name: "b", Type: api.Num}}},
		{Name: "other", Slots: []api.Field{{Name: "a", Type: api.Num}, {Name: "b", Type: api.Num}}},
		{Name: "wide", Slots: []api.Field{{Name: "a", Type: 1}, {Name: "b", Type: 2}, {Name: "c", Type: 3}, {Name: "d", Type: 4}, {Name: "e", Type: 1}, {Name: "f", Type: 2}, {Name: "g", Type: 3}, {Name: "h", Type: 4}}},
		{Name: "texts", Slots: []api.Field{{Name: "t", Type: api.Text}, {Name: "s", Type: api.Sym}}},
	}
}

// made is a schema of templates that are right.
func made(t testing.TB, l []api.Template) *schema.Schema {
	t.Helper()
	s, err, at := schema.New(l)
	if err != api.OK {
		t.Fatalf("%v: template %d is wrong", l, at)
	}
	return s
}

// pat is a pattern; asks is a slot and what it asks of it: a variable, or a value.
func pat(tmpl string, slots ...api.Slot) api.Pat { return api.Pat{Tmpl: tmpl, Slots: slots} }

func asks(slot string, name string) api.Slot { return api.Slot{Name: slot, T: api.Term{Var: name}} }

func has(slot string, v api.Value) api.Slot { return api.Slot{Name: slot, T: api.Term{V: v}} }

func fact(number int, tmpl string, vals ...api.Value) api.Fact {
	return api.Fact{Id: number, Tmpl: tmpl, Vals: vals}
}

// ann is a fact that most tests of patterns go by.
func ann(number int) api.Fact {
	return fact(number, "order", sym("ann"), num("3/2"), boolean("true"), text("a, b"))
}

// numbered is n names that rise, each of which is one.
func numbered(n int) []string {
	l := make([]string, n)
	for i := range l {
		l[i] = "x" + strconv.Itoa(1000000+i)
	}
	return l
}

// nothing fails, unless a tuple is a zero one, as it has to be beside false.
func nothing(t testing.TB, got api.Tuple, is bool) {
	t.Helper()
	if is || got.Binds != nil || got.Ids != nil {
		t.Fatalf("got %s, %v, want nothing", brief(got), is)
	}
}

// same fails, unless a tuple is that one, and it is told to be one.
func same(t testing.TB, got api.Tuple, is bool, want api.Tuple) {
	t.Helper()
	if !is || !alike(got, want) {
		t.Fatalf("got %s, %v, want %s", brief(got), is, brief(want))
	}
}

// checkWith fails, unless With tells what it has to; what it tells.
func checkWith(t testing.TB, one api.Tuple, name string, v api.Value) (api.Tuple, bool) {
	t.Helper()
	got, is := bind.With(one, name, v)
	if want, wantIs := with(one, name, v); is != wantIs || !alike(got, want) {
		t.Fatalf("%s with %q of %v: got %s, %v, want %s, %v", brief(one), name, v, brief(got), is, brief(want), wantIs)
	}
	if !is {
		nothing(t, got, is)
	}
	return got, is
}

// checkMerge fails, unless Merge tells what it has to; what it tells.
func checkMerge(t testing.TB, a, b api.Tuple) (api.Tuple, bool) {
	t.Helper()
	got, is := bind.Merge(a, b)
	if want, wantIs := merge(a, b); is != wantIs || !alike(got, want) {
		t.Fatalf("%s and %s: got %s, %v, want %s, %v", brief(a), brief(b), brief(got), is, brief(want), wantIs)
	}
	if !is {
		nothing(t, got, is)
	}
	return got, is
}

// checkMatch fails, unless Match tells what it has to, by the templates of few; what it tells.
func checkMatch(t testing.TB, p api.Pat, as string, f api.Fact) (api.Tuple, bool) {
	t.Helper()
	got, is := bind.Match(made(t, few()), p, as, f)
	if want, wantIs := match(few(), p, as, f); is != wantIs || !alike(got, want) {
		t.Fatalf("%s as %q, of %s: got %s, %v, want %s, %v", brief(p), as, brief(f), brief(got), is, brief(want), wantIs)
	}
	if !is {
		nothing(t, got, is)
	}
	return got, is
}

// matches fails, unless that is what a fact makes of a pattern; misses fails, unless it makes nothing of it.
func matches(t testing.TB, p api.Pat, as string, f api.Fact, want api.Tuple) {
	t.Helper()
	got, is := checkMatch(t, p, as, f)
	same(t, got, is, want)
}

func misses(t testing.TB, p api.Pat, as string, f api.Fact) {
	t.Helper()
	got, is := checkMatch(t, p, as, f)
	nothing(t, got, is)
}
