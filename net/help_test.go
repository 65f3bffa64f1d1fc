package net_test

import (
	"fmt"
	"slices"
	"strings"
	"testing"

	"tribunal/api"
	"tribunal/net"
	"tribunal/parse"
)

// templates is what most programs of these tests have: two of the same slots, one of none, and one of each type.
const templates = "(template p (a num) (b num)) (template q (a num) (s sym)) (template e) (template w (n num) (t text) (s sym) (b bool)) (template u (a num) (b num)) "

func value(kind int, s string) api.Value { return api.Value{Kind: kind, S: s} }

func num(s string) api.Value  { return value(api.Num, s) }
func text(s string) api.Value { return value(api.Text, s) }
func sym(s string) api.Value  { return value(api.Sym, s) }

// nines is a number of n nines.
func nines(n int) string { return strings.Repeat("9", n) }

// parsed is a text's program.
func parsed(t testing.TB, text string) api.Program {
	t.Helper()
	p, at, err := parse.Parse(text)
	if err != api.OK {
		t.Fatalf("%s: no program, at %d", brief(text), at)
	}
	return p
}

// program is one of those templates, and of a rule for each text of conditions.
func program(t testing.TB, conds ...string) api.Program {
	t.Helper()
	return parsed(t, templates+rules(conds...))
}

// rules is a text of a rule for each text of conditions.
func rules(conds ...string) string {
	var s string
	for i, one := range conds {
		s += fmt.Sprintf("(rule r%d %d (%s) ()) ", i, i%7-3, one)
	}
	return s
}

// conds is conditions of a text.
func conds(t testing.TB, text string) []api.Cond {
	t.Helper()
	return parsed(t, rules(text)).Rules[0].Conds
}

// fact is one by a short text: its number, its template, its values: "7 q 1 'red". Values have no blanks there.
func fact(s string) api.Fact {
	var f api.Fact
	for i, part := range strings.Fields(s) {
		switch i {
		case 0:
			fmt.Sscan(part, &f.Id)
		case 1:
			f.Tmpl = part
		default:
			f.Vals = append(f.Vals, read(part))
		}
	}
	return f
}

func facts(l ...string) []api.Fact {
	var all []api.Fact
	for _, s := range l {
		all = append(all, fact(s))
	}
	return all
}

// read is a value by its first byte: '(a symbol) "(a text) #(a fact's number) {(a set), true or false, none, or a number.
func read(s string) api.Value {
	switch {
	case s == "none":
		return api.Value{}
	case s == "true" || s == "false":
		return value(api.Bool, s)
	case s[0] == '\'':
		return sym(s[1:])
	case s[0] == '#':
		return value(api.Id, s[1:])
	case s[0] == '"':
		return text(s[1 : len(s)-1])
	case s[0] == '{':
		return value(api.Set, s[1:len(s)-1])
	}
	return num(s)
}

// written is a value with its kind's sign, told without package value.
func written(v api.Value) string {
	signs := map[int]string{api.Num: "%s", api.Text: "\"%s\"", api.Sym: "'%s", api.Bool: "%s", api.Id: "#%s", api.Set: "{%s}", api.None: "none%s"}
	sign, is := signs[v.Kind]
	if !is {
		sign = fmt.Sprint("?", v.Kind, "?%q")
	}
	return fmt.Sprintf(sign, v.S)
}

// line is a tuple, as a text, told without bind: "x=1 y='a #3 #4".
func line(t api.Tuple) string {
	var l []string
	for _, b := range t.Binds {
		l = append(l, b.Name+"="+written(b.V))
	}
	for _, id := range t.Ids {
		l = append(l, fmt.Sprintf("#%d", id))
	}
	return strings.Join(l, " ")
}

func lines(l []api.Tuple) []string {
	var s []string
	for _, t := range l {
		s = append(s, line(t))
	}
	return s
}

// told is changes, as texts: "+0 x=1 #3" is an Add of the first rule.
func told(l []api.Change) []string {
	var s []string
	for _, c := range l {
		sign := "-"
		if c.Add {
			sign = "+"
		}
		s = append(s, strings.TrimRight(fmt.Sprintf("%s%d %s", sign, c.Rule, line(c.T)), " "))
	}
	return s
}

// brief is how a thing is told to who reads a failure, cut if it is long.
func brief(a any) string {
	s := fmt.Sprintf("%+v", a)
	if len(s) > 900 {
		return s[:450] + ".." + s[len(s)-448:]
	}
	return s
}

// alike tells whether two tuples are the same; a list of none may be nil or not.
func alike(a, b api.Tuple) bool {
	return slices.Equal(a.Binds, b.Binds) && slices.Equal(a.Ids, b.Ids)
}

func alikeRows(a, b []api.Tuple) bool { return slices.EqualFunc(a, b, alike) }

func alikeChanges(a, b []api.Change) bool {
	return slices.EqualFunc(a, b, func(x, y api.Change) bool { return x.Add == y.Add && x.Rule == y.Rule && alike(x.T, y.T) })
}

// both is a net, and what it has to be like; last is what its rules' Sets told, and held what its Held told ahead of all facts.
type both struct {
	t    testing.TB
	n    *net.Net
	m    *model
	last [][]api.Tuple
	held int
}

// of is the net of a program that may be; what New was handed is changed once the net is there.
func of(t testing.TB, p api.Program) *both {
	t.Helper()
	given := roomy(p)
	was := whole(given)
	b := &both{t: t, n: net.New(given), m: newModel(p)}
	if b.n == nil {
		t.Fatalf("%s: nil", brief(p))
	}
	if whole(given) != was {
		t.Fatalf("%s: changed, or its spare room", brief(p))
	}
	spoil(&given)
	b.held = b.n.Held()
	b.check()
	if many := b.n.Nodes(); many < 1 || many > mostNodes(p) {
		t.Fatalf("%s: %d nodes", brief(p), many)
	}
	return b
}

// ofText is of, of those templates, and of a rule for each text of conditions.
func ofText(t testing.TB, conds ...string) *both {
	t.Helper()
	return of(t, program(t, conds...))
}

// mostNodes is how many nodes the net of a program may have.
func mostNodes(p api.Program) int {
	many := 1
	for _, r := range p.Rules {
		many += 4 * allConds(r.Conds)
	}
	return many
}

// allConds is how many conditions there are, with those in others.
func allConds(l []api.Cond) int {
	many := len(l)
	for _, c := range l {
		many += allConds(c.Over)
	}
	return many
}

// check fails, unless each rule's Set tells what it has to, and Held what it told ahead, if there are no facts.
func (b *both) check() {
	b.t.Helper()
	b.last = nil
	for i, want := range b.m.sets {
		got := b.n.Set(i)
		if !alikeRows(got, want) {
			b.t.Fatalf("%s: rule %d, of facts %s: got %s, want %s", brief(b.m.p), i, brief(b.m.facts), brief(lines(got)), brief(lines(want)))
		}
		b.last = append(b.last, got)
	}
	if held := b.n.Held(); len(b.m.facts) == 0 && held != b.held {
		b.t.Fatalf("%s: %d are held of no facts, ahead %d", brief(b.m.p), held, b.held)
	}
}

// takes fails, unless what a call told is what it has to tell, and each rule's Set is what was there ahead, with each Add put in, and each other one taken out.
func (b *both) takes(call string, got, want []api.Change) []api.Change {
	b.t.Helper()
	if !alikeChanges(got, want) {
		b.t.Fatalf("%s: %s, facts then %s: got %s, want %s", brief(b.m.p), call, brief(b.m.facts), brief(told(got)), brief(told(want)))
	}
	ahead := b.last
	b.check()
	for i := range ahead {
		row, is := by(ahead[i], i, got)
		if !is || !alikeRows(row, b.last[i]) {
			b.t.Fatalf("%s: %s: %s makes %s of what was there, Set is %s", brief(b.m.p), call, brief(told(got)), brief(lines(row)), brief(lines(b.last[i])))
		}
	}
	return got
}

// by is a rule's tuples with each Add put in at its place, and each other one taken out; false: it is not there, or is there already.
func by(l []api.Tuple, rule int, changes []api.Change) ([]api.Tuple, bool) {
	r := row{slices.Clone(l)}
	for _, c := range changes {
		if c.Rule == rule && !r.take(c.Add, c.T) {
			return r.l, false
		}
	}
	return r.l, true
}

// add has a fact come, and del go; they fail, unless that tells what it has to, and hand it on.
func (b *both) add(f api.Fact) []api.Change {
	b.t.Helper()
	given := roomy(f)
	was := whole(given)
	got := b.n.Add(given)
	if whole(given) != was {
		b.t.Fatalf("%s: changed, or its spare room", brief(f))
	}
	spoil(&given)
	return b.takes(fmt.Sprint("Add of ", brief(f)), got, b.m.add(f))
}

func (b *both) del(id int) []api.Change {
	b.t.Helper()
	return b.takes(fmt.Sprint("Del of ", id), b.n.Del(id), b.m.del(id))
}

// call is an add, by a short text ("+7 p 1 2"), or a del ("-7"), and fails unless that tells what a test's own words say, beside the model.
func (b *both) call(s string, want ...string) {
	b.t.Helper()
	if got := told(b.take(s)); !slices.Equal(got, want) {
		b.t.Fatalf("%s: got %s, want %s", s, brief(got), brief(want))
	}
}

// take is such an add, or a del, whatever is told.
func (b *both) take(s string) []api.Change {
	b.t.Helper()
	f := fact(s[1:])
	if s[0] == '+' {
		return b.add(f)
	}
	return b.del(f.Id)
}

// comes is take of some.
func (b *both) comes(l ...string) *both {
	b.t.Helper()
	for _, s := range l {
		b.take(s)
	}
	return b
}

// tells fails, unless a rule's Set tells those, each time that it is asked.
func (b *both) tells(rule int, want ...string) *both {
	b.t.Helper()
	for range 2 {
		if got := lines(b.n.Set(rule)); !slices.Equal(got, want) {
			b.t.Fatalf("rule %d: got %s, want %s", rule, brief(got), brief(want))
		}
	}
	return b
}

// empty has all facts go, and fails unless as much is held as at first, and each Set tells what it told at first.
func (b *both) empty() {
	b.t.Helper()
	for len(b.m.facts) > 0 {
		b.del(b.m.facts[len(b.m.facts)/2].Id)
	}
	if held := b.n.Held(); held != b.held {
		b.t.Fatalf("%s: %d are held of no facts, ahead %d", brief(b.m.p), held, b.held)
	}
}
