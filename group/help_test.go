package group_test

import (
	"fmt"
	"slices"
	"strings"
	"testing"

	"tribunal/api"
	"tribunal/group"
)

func value(kind int, s string) api.Value { return api.Value{Kind: kind, S: s} }

func num(s string) api.Value  { return value(api.Num, s) }
func text(s string) api.Value { return value(api.Text, s) }
func sym(s string) api.Value  { return value(api.Sym, s) }

// nines is a number of n nines.
func nines(n int) string { return strings.Repeat("9", n) }

// names is those of the kinds, by their numbers less 1; kind is that of a name.
func names() []string { return []string{"count", "sum", "min", "max", "avg", "set"} }

func kind(name string) int { return slices.Index(names(), name) + 1 }

// isOfNums tells whether a kind takes numbers alone.
func isOfNums(kind int) bool { return kind == api.FoldSum || kind == api.FoldAvg }

// eachKind calls f with each kind, in a test of its name.
func eachKind(t *testing.T, f func(t *testing.T, kind string)) {
	for _, name := range names() {
		t.Run(name, func(t *testing.T) { f(t, name) })
	}
}

// bound is a tuple of one variable, on facts.
func bound(name string, v api.Value, facts ...int) api.Tuple {
	return api.Tuple{Binds: []api.Bind{{Name: name, V: v}}, Ids: facts}
}

// also is a tuple with one more variable, that stands behind all others.
func also(t api.Tuple, name string, v api.Value) api.Tuple {
	t.Binds = append(slices.Clone(t.Binds), api.Bind{Name: name, V: v})
	return t
}

// tuple is one by a short text: "x=1 y='a z=\"t\" f=#3 #3 #4". Values have no blanks there.
func tuple(s string) api.Tuple {
	var t api.Tuple
	for _, part := range strings.Fields(s) {
		if name, v, is := strings.Cut(part, "="); is {
			t.Binds = append(t.Binds, api.Bind{Name: name, V: read(v)})
		} else {
			var id int
			fmt.Sscanf(part, "#%d", &id)
			t.Ids = append(t.Ids, id)
		}
	}
	return t
}

// tuples is some by their texts.
func tuples(l ...string) []api.Tuple {
	var all []api.Tuple
	for _, s := range l {
		all = append(all, tuple(s))
	}
	return all
}

// read is a value by its first byte: '(a symbol) "(a text) #(a fact's number) {(a set), true or false, none, or a number.
func read(s string) api.Value {
	switch {
	case s == "none":
		return api.Value{}
	case s == "true" || s == "false":
		return value(api.Bool, s)
	case s[0] == '\'':
		return sym(s[1:])
	case s[0] == '#':
		return value(api.Id, s[1:])
	case s[0] == '"':
		return text(s[1 : len(s)-1])
	case s[0] == '{':
		return value(api.Set, s[1:len(s)-1])
	}
	return num(s)
}

// written is a value with its kind's sign, told without package value.
func written(v api.Value) string {
	signs := map[int]string{api.Num: "%s", api.Text: "\"%s\"", api.Sym: "'%s", api.Bool: "%s", api.Id: "#%s", api.Set: "{%s}", api.None: "none%s"}
	sign, is := signs[v.Kind]
	if !is {
		sign = fmt.Sprint("?", v.Kind, "?%q")
	}
	return fmt.Sprintf(sign, v.S)
}

// line is a tuple, as a text, told without bind.
func line(t api.Tuple) string {
	var l []string
	for _, b := range t.Binds {
		l = append(l, b.Name+"="+written(b.V))
	}
	for _, id := range t.Ids {
		l = append(l, fmt.Sprintf("#%d", id))
	}
	return strings.Join(l, " ")
}

func lines(l []api.Tuple) []string {
	var s []string
	for _, t := range l {
		s = append(s, line(t))
	}
	return s
}

// told is deltas, as texts: "+x=1 #3" is an Add.
func told(l []api.Delta) []string {
	var s []string
	for _, d := range l {
		sign := "-"
		if d.Add {
			sign = "+"
		}
		s = append(s, sign+line(d.T))
	}
	return s
}

// brief is how a thing is told to who reads a failure, cut if it is long.
func brief(a any) string {
	s := fmt.Sprintf("%+v", a)
	if len(s) > 600 {
		return s[:300] + ".." + s[len(s)-298:]
	}
	return s
}

func put(t api.Tuple) api.Delta  { return api.Delta{Add: true, T: t} }
func drop(t api.Tuple) api.Delta { return api.Delta{T: t} }

// alike tells whether two tuples are the same; a list of none may be nil or not.
func alike(a, b api.Tuple) bool {
	return slices.Equal(a.Binds, b.Binds) && slices.Equal(a.Ids, b.Ids)
}

func alikeRows(a, b []api.Tuple) bool { return slices.EqualFunc(a, b, alike) }

func alikeDeltas(a, b []api.Delta) bool {
	return slices.EqualFunc(a, b, func(x, y api.Delta) bool { return x.Add == y.Add && alike(x.T, y.T) })
}

// both is a node, and what it has to be like; last is what its All told.
type both struct {
	t    testing.TB
	n    *group.Node
	m    *model
	last []api.Tuple
}

// node is one of a kind's name; its by is changed once the node is there.
func node(t testing.TB, fold, name, arg string, by ...string) *both {
	t.Helper()
	given := roomy(by, "strange")
	b := &both{t: t, n: group.New(kind(fold), name, arg, given), m: &model{kind: kind(fold), name: name, arg: arg, by: slices.Clone(by)}}
	if b.n == nil {
		t.Fatalf("%s of %s by %s: nil", fold, brief(arg), brief(by))
	}
	if !slices.Equal(given[:cap(given)], roomy(by, "strange")[:cap(given)]) {
		t.Fatalf("by became %s", brief(given[:cap(given)]))
	}
	spoil(given, "spoiled")
	b.check()
	return b
}

// check fails, unless All, Held and Groups tell what they have to.
func (b *both) check() {
	b.t.Helper()
	got, want := b.n.All(), b.m.all()
	if !alikeRows(got, want) {
		b.t.Fatalf("All: got %s, want %s", brief(lines(got)), brief(lines(want)))
	}
	if b.n.Groups() != len(want) || b.n.Held() != len(b.m.row.l) {
		b.t.Fatalf("got %d groups, %d held, want %d, %d", b.n.Groups(), b.n.Held(), len(want), len(b.m.row.l))
	}
	b.last = got
}

// take makes a call, fails unless it tells what it has to, and All is what was there ahead, with each Add put in, and each other one taken out; and hands on what was told.
func (b *both) take(d api.Delta) []api.Delta {
	b.t.Helper()
	got, want := b.n.Take(d), b.m.take(d)
	if !alikeDeltas(got, want) {
		b.t.Fatalf("Take of %s: got %s, want %s", brief(told([]api.Delta{d})), brief(told(got)), brief(told(want)))
	}
	changed, is := by(b.last, got)
	b.check()
	if !is || !alikeRows(changed, b.last) {
		b.t.Fatalf("Take of %s: %s makes %s of what was there, All is %s", brief(told([]api.Delta{d})), brief(told(got)), brief(lines(changed)), brief(lines(b.last)))
	}
	return got
}

// call is take, and fails unless that tells what a test's own words say, beside the model.
func (b *both) call(d api.Delta, want ...string) {
	b.t.Helper()
	if got := told(b.take(d)); !slices.Equal(got, want) {
		b.t.Fatalf("Take of %s: got %s, want %s", brief(told([]api.Delta{d})), brief(got), brief(want))
	}
}

// do is call, by a short text: "+x=1 #3".
func (b *both) do(call string, want ...string) {
	b.t.Helper()
	b.call(api.Delta{Add: call[0] == '+', T: tuple(call[1:])}, want...)
}

// comes is do of some that come, whatever is told.
func (b *both) comes(l ...string) *both {
	b.t.Helper()
	for _, s := range l {
		b.take(put(tuple(s)))
	}
	return b
}

// tells fails, unless All tells those, Groups how many these are, and Held that number, each time that they are asked.
func (b *both) tells(held int, want ...string) {
	b.t.Helper()
	for range 3 {
		if got := lines(b.n.All()); !slices.Equal(got, want) {
			b.t.Fatalf("got %s, want %s", brief(got), brief(want))
		}
		if b.n.Held() != held || b.n.Groups() != len(want) {
			b.t.Fatalf("got %d held, %d groups, want %d, %d", b.n.Held(), b.n.Groups(), held, len(want))
		}
	}
}

// by is tuples with each Add put in at its place, and each other one taken out; false: it is not there, or is there already.
func by(l []api.Tuple, deltas []api.Delta) ([]api.Tuple, bool) {
	r := row{slices.Clone(l)}
	for _, d := range deltas {
		if !r.take(d) {
			return r.l, false
		}
	}
	return r.l, true
}
