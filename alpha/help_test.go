package alpha_test

import (
	"fmt"
	"slices"
	"strings"
	"testing"

	"tribunal/alpha"
	"tribunal/api"
	"tribunal/schema"
	"tribunal/value"
)

func num(s string) api.Value  { return api.Value{Kind: api.Num, S: s} }
func text(s string) api.Value { return api.Value{Kind: api.Text, S: s} }
func sym(s string) api.Value  { return api.Value{Kind: api.Sym, S: s} }

func boolean(s string) api.Value { return api.Value{Kind: api.Bool, S: s} }

// pat is a pattern; asks is a slot and a variable for it, has is one and the value that it is to have.
func pat(tmpl string, slots ...api.Slot) api.Pat { return api.Pat{Tmpl: tmpl, Slots: slots} }

func asks(slot string, name string) api.Slot { return api.Slot{Name: slot, T: api.Term{Var: name}} }

func has(slot string, v api.Value) api.Slot { return api.Slot{Name: slot, T: api.Term{V: v}} }

func fact(number int, tmpl string, vals ...api.Value) api.Fact {
	return api.Fact{Id: number, Tmpl: tmpl, Vals: vals}
}

// order, pair and other are facts that most tests go by: of slots of each type, and of two templates that have the same slots.
func order(number int, by string, total string) api.Fact {
	return fact(number, "order", sym(by), num(total), boolean("true"), text("a, b"))
}

func pair(number int, a string, b string) api.Fact { return fact(number, "pair", num(a), num(b)) }

func other(number int, a string, b string) api.Fact { return fact(number, "other", num(a), num(b)) }

// templates is what the tests' facts may be of: slots of each type, of two names in two templates, and none.
func templates() []api.Template {
	return []api.Template{
		{Name: "order", Slots: []api.Field{{Name: "by", Type: api.Sym}, {Name: "total", Type: api.Num}, {Name: "paid", Type: api.Bool}, {Name: "note", Type: api.Text}}},
		{Name: "flag"},
		{Name: "pair", Slots: []api.Field{{Name: "a", Type: api.Num}, {Name: "b", Type: api.Num}}},
		{Name: "other", Slots: []api.Field{{Name: "a", Type: api.Num}, {Name: "b", Type: api.Num}}},
		{Name: "wide", Slots: []api.Field{{Name: "a", Type: api.Num}, {Name: "b", Type: api.Text}, {Name: "c", Type: api.Sym}, {Name: "d", Type: api.Bool}, {Name: "e", Type: api.Num}, {Name: "f", Type: api.Text}, {Name: "g", Type: api.Sym}, {Name: "h", Type: api.Bool}}},
	}
}

// made is a schema of those templates.
func made(t testing.TB) *schema.Schema {
	t.Helper()
	s, err, at := schema.New(templates())
	if err != api.OK {
		t.Fatalf("template %d is wrong", at)
	}
	return s
}

// line is a tuple, as a text: "f=#3 who='ann #3".
func line(t api.Tuple) string {
	var l []string
	for _, b := range t.Binds {
		s := value.Show(b.V)
		if b.V.Kind == api.Id {
			s = "#" + b.V.S
		}
		l = append(l, b.Name+"="+s)
	}
	for _, n := range t.Ids {
		l = append(l, fmt.Sprintf("#%d", n))
	}
	return strings.Join(l, " ")
}

// told is deltas, as texts: "+who='ann #3" is an Add.
func told(l []api.Delta) []string {
	var s []string
	for _, d := range l {
		sign := "-"
		if d.Add {
			sign = "+"
		}
		s = append(s, sign+line(d.T))
	}
	return s
}

// lines is tuples, as texts.
func lines(l []api.Tuple) []string {
	var s []string
	for _, t := range l {
		s = append(s, line(t))
	}
	return s
}

// brief is how a thing is told to who reads a failure, cut if it is long.
func brief(a any) string {
	s := fmt.Sprintf("%+v", a)
	if len(s) > 600 {
		return s[:300] + ".." + s[len(s)-298:]
	}
	return s
}

// alike tells whether two tuples are the same; a list of none may be nil or not.
func alike(a, b api.Tuple) bool {
	return slices.Equal(a.Binds, b.Binds) && slices.Equal(a.Ids, b.Ids)
}

func alikeDeltas(a, b []api.Delta) bool {
	return slices.EqualFunc(a, b, func(x, y api.Delta) bool { return x.Add == y.Add && alike(x.T, y.T) })
}

// both is a node, and what it has to be like; last is what its All told.
type both struct {
	t    testing.TB
	n    *alpha.Node
	m    *model
	last []api.Tuple
}

// of is a node of a pattern, by a schema of its own.
func of(t testing.TB, p api.Pat, as string) *both {
	t.Helper()
	return beside(t, made(t), p, as)
}

// beside is a node of a pattern, by a schema that other ones may have too.
func beside(t testing.TB, s *schema.Schema, p api.Pat, as string) *both {
	t.Helper()
	b := &both{t: t, n: alpha.New(s, p, as), m: &model{p: p, as: as}}
	b.m.p.Slots = slices.Clone(p.Slots)
	b.check()
	return b
}

// check fails, unless All tells what it has to.
func (b *both) check() {
	b.t.Helper()
	got, want := b.n.All(), b.m.all()
	if !slices.EqualFunc(got, want, alike) {
		b.t.Fatalf("%s as %q: All: got %s, want %s", brief(b.m.p), b.m.as, brief(lines(got)), brief(lines(want)))
	}
	b.last = got
}

// see fails, unless a call told what it had to, and All is what was there ahead, with each Add put in, and each other one taken out.
func (b *both) see(call string, got, want []api.Delta) []api.Delta {
	b.t.Helper()
	if !alikeDeltas(got, want) {
		b.t.Fatalf("%s as %q: %s: got %s, want %s", brief(b.m.p), b.m.as, call, brief(told(got)), brief(told(want)))
	}
	changed, is := by(b.last, got)
	b.check()
	if !is || !slices.EqualFunc(changed, b.last, alike) {
		b.t.Fatalf("%s as %q: %s: %s makes %s of what was there, All is %s", brief(b.m.p), b.m.as, call, brief(told(got)), brief(lines(changed)), brief(lines(b.last)))
	}
	return got
}

// by is tuples, in order, with each Add put in, and each other one taken out; false: an Add is in already, or another one is not.
func by(l []api.Tuple, deltas []api.Delta) ([]api.Tuple, bool) {
	l = slices.Clone(l)
	for _, d := range deltas {
		i := slices.IndexFunc(l, func(t api.Tuple) bool { return alike(t, d.T) })
		if d.Add != (i < 0) {
			return l, false
		}
		if d.Add {
			l = append(l, d.T)
		} else {
			l = slices.Delete(l, i, i+1)
		}
	}
	slices.SortStableFunc(l, func(x, y api.Tuple) int { return slices.Compare(x.Ids, y.Ids) })
	return l, true
}

// add and del make a call, fail unless all is told as it has to be, and hand on what that call told.
func (b *both) add(f api.Fact) []api.Delta {
	b.t.Helper()
	return b.see("Add of "+brief(f), b.n.Add(f), b.m.add(f))
}

func (b *both) del(id int) []api.Delta {
	b.t.Helper()
	return b.see(fmt.Sprintf("Del of %d", id), b.n.Del(id), b.m.del(id))
}

// tells fails, unless deltas are those: a test's own words stand beside the model.
func tells(t testing.TB, got []api.Delta, want ...string) {
	t.Helper()
	if l := told(got); !slices.Equal(l, want) {
		t.Fatalf("got %s, want %s", brief(l), brief(want))
	}
}

// all fails, unless All tells those, each time that it is asked.
func (b *both) all(want ...string) {
	b.t.Helper()
	for range 3 {
		if got := lines(b.n.All()); !slices.Equal(got, want) {
			b.t.Fatalf("got %s, want %s", brief(got), brief(want))
		}
	}
}

// makes fails, unless a node of a pattern that has no other fact makes that of one, and nothing once it is gone; nothing, if want is "".
func makes(t testing.TB, p api.Pat, as string, f api.Fact, want string) {
	t.Helper()
	b := of(t, p, as)
	b.all()
	if want == "" {
		tells(t, b.add(f))
		b.all()
		tells(t, b.del(f.Id))
	} else {
		tells(t, b.add(f), "+"+want)
		b.all(want)
		tells(t, b.del(f.Id), "-"+want)
	}
	b.all()
}
