package absent_test

import (
	"fmt"
	"slices"
	"strings"
	"testing"

	"tribunal/absent"
	"tribunal/api"
)

func value(kind int, s string) api.Value { return api.Value{Kind: kind, S: s} }

func num(s string) api.Value  { return value(api.Num, s) }
func text(s string) api.Value { return value(api.Text, s) }
func sym(s string) api.Value  { return value(api.Sym, s) }

// bound is a tuple of one variable, on facts.
func bound(name string, v api.Value, facts ...int) api.Tuple {
	return api.Tuple{Binds: []api.Bind{{Name: name, V: v}}, Ids: facts}
}

// tuple is one by a short text: "x=1 y='a z=\"t\" f=#3 #3 #4". Values have no blanks there.
func tuple(s string) api.Tuple {
	var t api.Tuple
	for _, part := range strings.Fields(s) {
		if name, v, is := strings.Cut(part, "="); is {
			t.Binds = append(t.Binds, api.Bind{Name: name, V: read(v)})
		} else {
			var id int
			fmt.Sscanf(part, "#%d", &id)
			t.Ids = append(t.Ids, id)
		}
	}
	return t
}

// read is a value by its first byte: '(a symbol) "(a text) #(a fact's number) {(a set), true or false, none, or a number.
func read(s string) api.Value {
	switch {
	case s == "none":
		return api.Value{}
	case s == "true" || s == "false":
		return value(api.Bool, s)
	case s[0] == '\'':
		return sym(s[1:])
	case s[0] == '#':
		return value(api.Id, s[1:])
	case s[0] == '"':
		return text(s[1 : len(s)-1])
	case s[0] == '{':
		return value(api.Set, s[1:len(s)-1])
	}
	return num(s)
}

// tuples is some by their texts.
func tuples(l ...string) []api.Tuple {
	var all []api.Tuple
	for _, s := range l {
		all = append(all, tuple(s))
	}
	return all
}

// line is a tuple, as a text: each value with its kind's sign, told without bind.
func line(t api.Tuple) string {
	signs := map[int]string{api.Num: "%s", api.Text: "%q", api.Sym: "'%s", api.Bool: "%s", api.Id: "#%s", api.Set: "{%s}", api.None: "none%s"}
	var l []string
	for _, b := range t.Binds {
		sign, is := signs[b.V.Kind]
		if !is {
			sign = fmt.Sprint("?", b.V.Kind, "?%q")
		}
		l = append(l, b.Name+"="+fmt.Sprintf(sign, b.V.S))
	}
	for _, id := range t.Ids {
		l = append(l, fmt.Sprintf("#%d", id))
	}
	return strings.Join(l, " ")
}

func lines(l []api.Tuple) []string {
	var s []string
	for _, t := range l {
		s = append(s, line(t))
	}
	return s
}

// told is deltas, as texts: "+x=1 #3" is an Add.
func told(l []api.Delta) []string {
	var s []string
	for _, d := range l {
		sign := "-"
		if d.Add {
			sign = "+"
		}
		s = append(s, sign+line(d.T))
	}
	return s
}

// brief is how a thing is told to who reads a failure, cut if it is long.
func brief(a any) string {
	s := fmt.Sprintf("%+v", a)
	if len(s) > 600 {
		return s[:300] + ".." + s[len(s)-298:]
	}
	return s
}

func put(t api.Tuple) api.Delta  { return api.Delta{Add: true, T: t} }
func drop(t api.Tuple) api.Delta { return api.Delta{T: t} }

// signed is texts with a sign ahead of each.
func signed(sign string, l []string) []string {
	var s []string
	for _, one := range l {
		s = append(s, sign+one)
	}
	return s
}

// alike tells whether two tuples are the same; a list of none may be nil or not.
func alike(a, b api.Tuple) bool {
	return slices.Equal(a.Binds, b.Binds) && slices.Equal(a.Ids, b.Ids)
}

func alikeRows(a, b []api.Tuple) bool { return slices.EqualFunc(a, b, alike) }

func alikeDeltas(a, b []api.Delta) bool {
	return slices.EqualFunc(a, b, func(x, y api.Delta) bool { return x.Add == y.Add && alike(x.T, y.T) })
}

// both is a node, and what it has to be like; last is what its All told.
type both struct {
	t    testing.TB
	n    *absent.Node
	m    *model
	last []api.Tuple
}

func node(t testing.TB) *both {
	t.Helper()
	b := &both{t: t, n: absent.New(), m: &model{}}
	b.check()
	return b
}

// check fails, unless All and Held tell what they have to.
func (b *both) check() {
	b.t.Helper()
	got, want := b.n.All(), b.m.all()
	if !alikeRows(got, want) {
		b.t.Fatalf("All: got %s, want %s", brief(lines(got)), brief(lines(want)))
	}
	if got, want := b.n.Held(), len(b.m.left.l)+len(b.m.right.l); got != want {
		b.t.Fatalf("Held: got %d, want %d", got, want)
	}
	b.last = got
}

// see fails, unless a call told what it had to, and All is what was there ahead, with each Add put in, and each other one taken out.
func (b *both) see(call string, d api.Delta, got, want []api.Delta) []api.Delta {
	b.t.Helper()
	if !alikeDeltas(got, want) {
		b.t.Fatalf("%s of %s: got %s, want %s", call, brief(told([]api.Delta{d})), brief(told(got)), brief(told(want)))
	}
	changed, is := by(b.last, got)
	b.check()
	if !is || !alikeRows(changed, b.last) {
		b.t.Fatalf("%s of %s: %s makes %s of what was there, All is %s", call, brief(told([]api.Delta{d})), brief(told(got)), brief(lines(changed)), brief(lines(b.last)))
	}
	return got
}

// left and right make a call, fail unless all is told as it has to be, and hand on what that call told.
func (b *both) left(d api.Delta) []api.Delta {
	b.t.Helper()
	return b.see("Left", d, b.n.Left(d), b.m.toLeft(d))
}

func (b *both) right(d api.Delta) []api.Delta {
	b.t.Helper()
	return b.see("Right", d, b.n.Right(d), b.m.toRight(d))
}

// call is left or right, and fails unless that tells what a test's own words say, beside the model.
func (b *both) call(side string, d api.Delta, want ...string) {
	b.t.Helper()
	call := b.right
	if side == "left" {
		call = b.left
	}
	if got := told(call(d)); !slices.Equal(got, want) {
		b.t.Fatalf("%s of %s: got %s, want %s", side, brief(told([]api.Delta{d})), brief(got), brief(want))
	}
}

// do is call, by a short text: "left +x=1 #3".
func (b *both) do(call string, want ...string) {
	b.t.Helper()
	side, rest, _ := strings.Cut(call, " ")
	b.call(side, api.Delta{Add: rest[0] == '+', T: tuple(rest[1:])}, want...)
}

// tells fails, unless All tells those, and Held that number, each time that they are asked.
func (b *both) tells(held int, want ...string) {
	b.t.Helper()
	for range 3 {
		if got := lines(b.n.All()); !slices.Equal(got, want) {
			b.t.Fatalf("got %s, want %s", brief(got), brief(want))
		}
		if got := b.n.Held(); got != held {
			b.t.Fatalf("Held: got %d, want %d", got, held)
		}
	}
}

// by is tuples with each Add put in at its place, and each other one taken out; false: it is not there, or is there already.
func by(l []api.Tuple, deltas []api.Delta) ([]api.Tuple, bool) {
	r := row{slices.Clone(l)}
	for _, d := range deltas {
		if !r.take(d) {
			return r.l, false
		}
	}
	return r.l, true
}
