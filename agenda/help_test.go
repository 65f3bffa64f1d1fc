package agenda_test

import (
	"fmt"
	"slices"
	"strconv"
	"strings"
	"testing"

	"tribunal/agenda"
	"tribunal/api"
)

func value(kind int, s string) api.Value { return api.Value{Kind: kind, S: s} }

func num(s string) api.Value  { return value(api.Num, s) }
func text(s string) api.Value { return value(api.Text, s) }
func sym(s string) api.Value  { return value(api.Sym, s) }

// bound is a tuple of one variable, on facts.
func bound(name string, v api.Value, facts ...int) api.Tuple {
	return api.Tuple{Binds: []api.Bind{{Name: name, V: v}}, Ids: facts}
}

// tuple is one by a short text: "x=1 y='a z=\"t\" f=#3 #3 #4". Values have no blanks there.
func tuple(s string) api.Tuple {
	var t api.Tuple
	for _, part := range strings.Fields(s) {
		if name, v, is := strings.Cut(part, "="); is {
			t.Binds = append(t.Binds, api.Bind{Name: name, V: read(v)})
		} else {
			t.Ids = append(t.Ids, number(part[1:]))
		}
	}
	return t
}

func number(s string) int {
	n, err := strconv.Atoi(s)
	if err != nil {
		panic(s)
	}
	return n
}

// read is a value by its first byte: '(a symbol) "(a text) #(a fact's number) {(a set), true or false, none, or a number.
func read(s string) api.Value {
	switch {
	case s == "none":
		return api.Value{}
	case s == "true" || s == "false":
		return value(api.Bool, s)
	case s[0] == '\'':
		return sym(s[1:])
	case s[0] == '#':
		return value(api.Id, s[1:])
	case s[0] == '"' || s[0] == '{':
		kinds := map[byte]int{'"': api.Text, '{': api.Set}
		return value(kinds[s[0]], s[1:len(s)-1])
	}
	return num(s)
}

// put and drop are changes of a rule.
func put(rule int, t api.Tuple) api.Change  { return api.Change{Add: true, Rule: rule, T: t} }
func drop(rule int, t api.Tuple) api.Change { return api.Change{Rule: rule, T: t} }

// change is one by a short text: "+0 x=1 #3" is an Add of the rule 0.
func change(s string) api.Change {
	rule, rest, _ := strings.Cut(s[1:], " ")
	return api.Change{Add: s[0] == '+', Rule: number(rule), T: tuple(rest)}
}

// of is an Add by a short text: "0 x=1 #3".
func of(s string) api.Change { return change("+" + s) }

// line is a change, as a text: each value with its kind's sign, told without bind. "0 x=1 #3" is an Add; any other one has "no " ahead of it.
func line(c api.Change) string {
	signs := map[int]string{api.Num: "%s", api.Text: "%q", api.Sym: "'%s", api.Bool: "%s", api.Id: "#%s", api.Set: "{%s}", api.None: "none%s"}
	l := []string{strconv.Itoa(c.Rule)}
	if !c.Add {
		l = []string{"no", l[0]}
	}
	for _, b := range c.T.Binds {
		sign, is := signs[b.V.Kind]
		if !is {
			sign = fmt.Sprint("?", b.V.Kind, "?%q")
		}
		l = append(l, b.Name+"="+fmt.Sprintf(sign, b.V.S))
	}
	for _, id := range c.T.Ids {
		l = append(l, "#"+strconv.Itoa(id))
	}
	return strings.Join(l, " ")
}

func lines(l []api.Change) []string {
	var s []string
	for _, c := range l {
		s = append(s, line(c))
	}
	return s
}

// brief is how a thing is told to who reads a failure, cut if it is long.
func brief(a any) string {
	s := fmt.Sprintf("%+v", a)
	if len(s) > 600 {
		return s[:300] + ".." + s[len(s)-298:]
	}
	return s
}

// alike tells whether two tuples are the same; a list of none may be nil or not.
func alike(a, b api.Tuple) bool {
	return slices.Equal(a.Binds, b.Binds) && slices.Equal(a.Ids, b.Ids)
}

func alikeChange(a, b api.Change) bool {
	return a.Add == b.Add && a.Rule == b.Rule && alike(a.T, b.T)
}

func alikeChanges(a, b []api.Change) bool { return slices.EqualFunc(a, b, alikeChange) }

// both is an agenda, and what it has to be like.
type both struct {
	t testing.TB
	a *agenda.Agenda
	m *model
}

func newBoth(t testing.TB, saliences ...int) *both {
	t.Helper()
	b := &both{t: t, a: agenda.New(saliences), m: newModel(saliences)}
	b.check()
	return b
}

// check fails, unless List, Next and Held tell what they have to.
func (b *both) check() {
	b.t.Helper()
	want := b.m.list()
	if got := b.a.List(); !alikeChanges(got, want) {
		b.t.Fatalf("List: got %s, want %s", brief(lines(got)), brief(lines(want)))
	}
	var first api.Change
	if len(want) > 0 {
		first = want[0]
	}
	if got, is := b.a.Next(); is != (len(want) > 0) || !alikeChange(got, first) {
		b.t.Fatalf("Next: got %s, %t, want %s", line(got), is, line(first))
	} else if !is && (got.T.Binds != nil || got.T.Ids != nil) {
		b.t.Fatalf("Next: got %+v, which is no zero one", got)
	}
	if got := b.a.Held(); got != len(b.m.l) {
		b.t.Fatalf("Held: got %d, want %d", got, len(b.m.l))
	}
}

// change and fire make a call, fail unless all is told as it has to be, and hand on what the call told.
func (b *both) change(c api.Change) bool {
	b.t.Helper()
	got, want := b.a.Change(c), b.m.change(c)
	if got != want {
		b.t.Fatalf("Change, Add %t, of %s: got %t, want %t", c.Add, line(c), got, want)
	}
	b.check()
	return got
}

func (b *both) fire() bool {
	b.t.Helper()
	got, want := b.a.Fire(), b.m.fire()
	if got != want {
		b.t.Fatalf("Fire: got %t, want %t", got, want)
	}
	b.check()
	return got
}

// changes fails, unless Change of that tells what a test's own words say, beside the model.
func (b *both) changes(c api.Change, want bool) {
	b.t.Helper()
	if got := b.change(c); got != want {
		b.t.Fatalf("Change, Add %t, of %s: got %t, want %t", c.Add, line(c), got, want)
	}
}

// yes and no are changes of short texts, that are true, or false, one by one.
func (b *both) yes(l ...string) {
	b.t.Helper()
	for _, s := range l {
		b.changes(change(s), true)
	}
}

func (b *both) no(l ...string) {
	b.t.Helper()
	for _, s := range l {
		b.changes(change(s), false)
	}
}

// fires fails, unless those are what is done next, one by one.
func (b *both) fires(l ...string) {
	b.t.Helper()
	for _, want := range l {
		if c, is := b.a.Next(); !is || line(c) != want {
			b.t.Fatalf("Next: got %s, %t, want %s", line(c), is, want)
		}
		if !b.fire() {
			b.t.Fatalf("%s is not done", want)
		}
	}
}

// ends fails, unless nothing is to be done, however often it is asked.
func (b *both) ends() {
	b.t.Helper()
	for range 3 {
		if b.fire() {
			b.t.Fatal("there was something to be done")
		}
	}
}

// tells fails, unless List tells those, and Held that number, each time that they are asked.
func (b *both) tells(held int, want ...string) {
	b.t.Helper()
	for range 3 {
		if got := lines(b.a.List()); !slices.Equal(got, want) {
			b.t.Fatalf("got %s, want %s", brief(got), brief(want))
		}
		if got := b.a.Held(); got != held {
			b.t.Fatalf("Held: got %d, want %d", got, held)
		}
		b.check()
	}
}
