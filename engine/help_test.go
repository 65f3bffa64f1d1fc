package engine_test

import (
	"fmt"
	"math"
	"slices"
	"strings"
	"testing"

	"tribunal/api"
	"tribunal/engine"
	"tribunal/net"
	"tribunal/parse"
)

// templates is what most programs of these tests have: two of the same slots, one of a symbol, one of none, and one of each type.
const templates = "(template p (a num) (b num)) (template q (a num) (s sym)) (template e) (template w (n num) (t text) (s sym) (b bool)) (template u (a num) (b num)) "

func value(kind int, s string) api.Value { return api.Value{Kind: kind, S: s} }

func num(s string) api.Value  { return value(api.Num, s) }
func text(s string) api.Value { return value(api.Text, s) }
func sym(s string) api.Value  { return value(api.Sym, s) }

// nines is a number of n nines.
func nines(n int) string { return strings.Repeat("9", n) }

// parsed is a text's program.
func parsed(t testing.TB, text string) api.Program {
	t.Helper()
	p, at, err := parse.Parse(text)
	if err != api.OK {
		t.Fatalf("%s: no program, at %d", brief(text), at)
	}
	return p
}

// program is one of those templates, and of rules of a text.
func program(t testing.TB, rules string) api.Program {
	t.Helper()
	return parsed(t, templates+rules)
}

// conds is conditions of a text.
func conds(t testing.TB, text string) []api.Cond {
	t.Helper()
	return parsed(t, "(rule r 0 ("+text+") ())").Rules[0].Conds
}

// read is a value by its first byte: '(a symbol) "(a text) #(a fact's number) {(a set), true or false, none, or a number.
func read(s string) api.Value {
	switch {
	case s == "none":
		return api.Value{}
	case s == "true" || s == "false":
		return value(api.Bool, s)
	case s[0] == '\'':
		return sym(s[1:])
	case s[0] == '#':
		return value(api.Id, s[1:])
	case s[0] == '"':
		return text(s[1 : len(s)-1])
	case s[0] == '{':
		return value(api.Set, s[1:len(s)-1])
	}
	return num(s)
}

// written is a value with its kind's sign, told without package value.
func written(v api.Value) string {
	signs := map[int]string{api.Num: "%s", api.Text: "\"%s\"", api.Sym: "'%s", api.Bool: "%s", api.Id: "#%s", api.Set: "{%s}", api.None: "none%s"}
	sign, is := signs[v.Kind]
	if !is {
		sign = fmt.Sprint("?", v.Kind, "?%q")
	}
	return fmt.Sprintf(sign, v.S)
}

// line is a tuple, as a text, told without bind: "x=1 y='a #3 #4".
func line(t api.Tuple) string {
	var l []string
	for _, b := range t.Binds {
		l = append(l, b.Name+"="+written(b.V))
	}
	for _, id := range t.Ids {
		l = append(l, fmt.Sprintf("#%d", id))
	}
	return strings.Join(l, " ")
}

func lines(l []api.Tuple) []string {
	var s []string
	for _, t := range l {
		s = append(s, line(t))
	}
	return s
}

// factLine is a fact, as a text: "7 q 1 'red".
func factLine(f api.Fact) string {
	l := []string{fmt.Sprint(f.Id), f.Tmpl}
	for _, v := range f.Vals {
		l = append(l, written(v))
	}
	return strings.Join(l, " ")
}

func factLines(l []api.Fact) []string {
	var s []string
	for _, f := range l {
		s = append(s, factLine(f))
	}
	return s
}

// todo is what is to be done, as texts: "0 x=1 #3" is a tuple of the first rule.
func todo(l []api.Change) []string {
	var s []string
	for _, c := range l {
		one := strings.TrimRight(fmt.Sprintf("%d %s", c.Rule, line(c.T)), " ")
		if !c.Add {
			one = "no " + one
		}
		s = append(s, one)
	}
	return s
}

// firedLine is what a rule's tuple has done, as a text: "0 x=1 #3 > 2 > 'a: 3" is three actions of the first rule, two of which printed; ", error 21" behind it is what was wrong with the next one.
func firedLine(f api.Fired) string {
	s := todo([]api.Change{{Add: true, Rule: f.Rule, T: f.T}})[0]
	for _, v := range f.Prints {
		s += " > " + written(v)
	}
	s += fmt.Sprint(": ", f.Done)
	if f.Err != api.OK {
		s += fmt.Sprintf(", error %d", int(f.Err))
	}
	return s
}

func firedLines(l []api.Fired) []string {
	var s []string
	for _, f := range l {
		s = append(s, firedLine(f))
	}
	return s
}

// brief is how a thing is told to who reads a failure, cut if it is long.
func brief(a any) string {
	s := fmt.Sprintf("%+v", a)
	if len(s) > 1200 {
		return s[:600] + ".." + s[len(s)-598:]
	}
	return s
}

// alike tells whether two tuples are the same; a list of none may be nil or not.
func alike(a, b api.Tuple) bool {
	return slices.Equal(a.Binds, b.Binds) && slices.Equal(a.Ids, b.Ids)
}

func alikeRows(a, b []api.Tuple) bool { return slices.EqualFunc(a, b, alike) }

func alikeFacts(a, b []api.Fact) bool {
	return slices.EqualFunc(a, b, func(x, y api.Fact) bool {
		return x.Id == y.Id && x.Tmpl == y.Tmpl && slices.Equal(x.Vals, y.Vals)
	})
}

func alikeChanges(a, b []api.Change) bool {
	return slices.EqualFunc(a, b, func(x, y api.Change) bool { return x.Add == y.Add && x.Rule == y.Rule && alike(x.T, y.T) })
}

func alikeFired(a, b []api.Fired) bool {
	return slices.EqualFunc(a, b, func(x, y api.Fired) bool {
		return x.Rule == y.Rule && alike(x.T, y.T) && slices.Equal(x.Prints, y.Prints) && x.Done == y.Done && x.Err == y.Err
	})
}

// both is an engine, and what it has to be like; held is what its Held told ahead of all facts, and calls is all that were made so far, to be made again.
type both struct {
	t     testing.TB
	e     *engine.Engine
	m     *model
	held  int
	calls []func(e *engine.Engine)
}

// again is another engine of the same program, of which the same was asked.
func (b *both) again() *engine.Engine {
	b.t.Helper()
	e, err, _ := engine.New(b.m.p)
	if err != api.OK {
		b.t.Fatalf("%s: error %d", brief(b.m.p), err)
	}
	for _, call := range b.calls {
		call(e)
	}
	return e
}

// of is the engine of a program that may be; what New was handed is changed once the engine is there.
func of(t testing.TB, p api.Program) *both {
	t.Helper()
	given := roomy(p)
	was := whole(given)
	e, err, at := engine.New(given)
	if e == nil || err != api.OK || at != 0 {
		t.Fatalf("%s: error %d, %d", brief(p), err, at)
	}
	if whole(given) != was {
		t.Fatalf("%s: changed, or its spare room", brief(p))
	}
	spoil(&given)
	b := &both{t: t, e: e, m: newModel(p), held: e.Held()}
	b.check()
	return b
}

// ofText is of, of those templates, and of rules of a text.
func ofText(t testing.TB, rules string) *both {
	t.Helper()
	return of(t, program(t, rules))
}

// owned is a copy of what was told; what was told is changed then, as it is the asker's own.
func owned[T any](told T) T {
	l := copied(told)
	spoil(&told)
	return l
}

// state is all that an engine tells of itself.
type state struct {
	facts []api.Fact
	todo  []api.Change
	sets  [][]api.Tuple
	held  int
}

func stateOf(e *engine.Engine, rules int) state {
	s := state{facts: owned(e.Facts()), todo: owned(e.Agenda()), held: e.Held()}
	for i := range rules {
		s.sets = append(s.sets, owned(e.Set(i)))
	}
	return s
}

// unlike is what is unlike in two states; nothing, if they are the same.
func unlike(a, b state) string {
	if !alikeFacts(a.facts, b.facts) {
		return fmt.Sprintf("facts %s and %s", brief(factLines(a.facts)), brief(factLines(b.facts)))
	}
	for i := range a.sets {
		if !alikeRows(a.sets[i], b.sets[i]) {
			return fmt.Sprintf("facts %s: of rule %d %s and %s", brief(factLines(a.facts)), i, brief(lines(a.sets[i])), brief(lines(b.sets[i])))
		}
	}
	if !alikeChanges(a.todo, b.todo) {
		return fmt.Sprintf("facts %s: to be done %s and %s", brief(factLines(a.facts)), brief(todo(a.todo)), brief(todo(b.todo)))
	}
	if a.held != b.held {
		return fmt.Sprintf("facts %s: %d and %d are held", brief(factLines(a.facts)), a.held, b.held)
	}
	return ""
}

// state is what the engine has to tell of itself: as many are held as by a net of the same facts.
func (m *model) state() state {
	n := net.New(m.p)
	for _, f := range m.facts {
		n.Add(f)
	}
	return state{facts: m.facts, todo: m.todo(), sets: m.sets, held: n.Held()}
}

// check fails, unless the engine tells of itself what it has to.
func (b *both) check() {
	b.t.Helper()
	if s := unlike(stateOf(b.e, len(b.m.p.Rules)), b.m.state()); s != "" {
		b.t.Fatalf("%s: %s", brief(b.m.p.Rules), s)
	}
	if held := b.e.Held(); len(b.m.facts) == 0 && held != b.held {
		b.t.Fatalf("%s: %d are held of no facts, ahead %d", brief(b.m.p.Rules), held, b.held)
	}
	for _, place := range []int{-1, len(b.m.p.Rules), math.MinInt, math.MaxInt} {
		if l := b.e.Set(place); len(l) > 0 {
			b.t.Fatalf("%s: of rule %d %s", brief(b.m.p.Rules), place, brief(lines(l)))
		}
	}
}

// asks has a call be handed something, that is changed by the one who gave it behind that; it fails, if the call changed it, or its spare room.
func asks[T any](b *both, thing T, call func(T)) {
	b.t.Helper()
	given := roomy(thing)
	was := whole(given)
	call(given)
	if whole(given) != was {
		b.t.Fatalf("%s: changed, or its spare room", brief(thing))
	}
	spoil(&given)
}

// assert, retract and modify make a call, fail unless all is told as it has to be, and hand on what the call told.
func (b *both) assert(tmpl string, vals []api.Value) (int, api.Errno) {
	b.t.Helper()
	var id int
	var err api.Errno
	asks(b, vals, func(vals []api.Value) { id, err = b.e.Assert(tmpl, vals) })
	vals = slices.Clone(vals)
	b.calls = append(b.calls, func(e *engine.Engine) { e.Assert(tmpl, vals) })
	if want, wantErr := b.m.assert(tmpl, vals); id != want || err != wantErr {
		b.t.Fatalf("Assert of %s %s: got %d, %d, want %d, %d", brief(tmpl), brief(vals), id, err, want, wantErr)
	}
	b.check()
	return id, err
}

func (b *both) retract(id int) api.Errno {
	b.t.Helper()
	err := b.e.Retract(id)
	b.calls = append(b.calls, func(e *engine.Engine) { e.Retract(id) })
	if want := b.m.retract(id); err != want {
		b.t.Fatalf("Retract of %d: got %d, want %d", id, err, want)
	}
	b.check()
	return err
}

func (b *both) modify(id int, l []api.Put) (int, api.Errno) {
	b.t.Helper()
	var next int
	var err api.Errno
	asks(b, l, func(l []api.Put) { next, err = b.e.Modify(id, l) })
	l = slices.Clone(l)
	b.calls = append(b.calls, func(e *engine.Engine) { e.Modify(id, l) })
	if want, wantErr := b.m.modify(id, l); next != want || err != wantErr {
		b.t.Fatalf("Modify of %d, %s: got %d, %d, want %d, %d", id, brief(l), next, err, want, wantErr)
	}
	b.check()
	return next, err
}

// run is a run, and fails unless all is told as it has to be.
func (b *both) run(fuel int) ([]api.Fired, int) {
	b.t.Helper()
	got, stop := b.e.Run(fuel)
	l := owned(got)
	b.calls = append(b.calls, func(e *engine.Engine) { e.Run(fuel) })
	want, wantStop := b.m.run(fuel)
	if !alikeFired(l, want) || stop != wantStop {
		b.t.Fatalf("%s: Run of %d: got %s, %d, want %s, %d", brief(b.m.p.Rules), fuel, brief(firedLines(l)), stop, brief(firedLines(want)), wantStop)
	}
	b.check()
	return l, stop
}

// query is what Query tells of conditions that may be, and fails unless that is what they hold for.
func (b *both) query(l []api.Cond) []api.Tuple {
	b.t.Helper()
	var rows []api.Tuple
	asks(b, l, func(l []api.Cond) {
		got, err := b.e.Query(l)
		if err != api.OK {
			b.t.Fatalf("Query of %s: error %d", brief(l), err)
		}
		rows = owned(got)
	})
	if want := b.m.set(l); !alikeRows(rows, want) {
		b.t.Fatalf("Query of %s: got %s, want %s", brief(l), brief(lines(rows)), brief(lines(want)))
	}
	b.check()
	return rows
}

// fact is a template's name and values, by a short text: "q 1 'red". Values have no blanks there.
func fact(s string) (string, []api.Value) {
	var l []api.Value
	words := strings.Fields(s)
	for _, word := range words[1:] {
		l = append(l, read(word))
	}
	return words[0], l
}

// puts is values that slots are to have, by a short text: "a=1 s='red".
func puts(s string) []api.Put {
	var l []api.Put
	for _, word := range strings.Fields(s) {
		name, v, _ := strings.Cut(word, "=")
		l = append(l, api.Put{Name: name, V: read(v)})
	}
	return l
}

// comes is facts by short texts, that come one by one; it fails, unless each does.
func (b *both) comes(l ...string) *both {
	b.t.Helper()
	for _, s := range l {
		if _, err := b.assert(fact(s)); err != api.OK {
			b.t.Fatalf("%s: error %d", s, err)
		}
	}
	return b
}

// goes is facts that go one by one; it fails, unless each does.
func (b *both) goes(ids ...int) *both {
	b.t.Helper()
	for _, id := range ids {
		if err := b.retract(id); err != api.OK {
			b.t.Fatalf("%d: error %d", id, err)
		}
	}
	return b
}

// turns is a fact that is modified, by a short text; it fails, unless it is, and its new number is that.
func (b *both) turns(id int, s string, want int) *both {
	b.t.Helper()
	if next, err := b.modify(id, puts(s)); next != want || err != api.OK {
		b.t.Fatalf("%d, %s: got %d, %d, want %d", id, s, next, err, want)
	}
	return b
}

// runs is a run, and fails unless it tells what a test's own words say, beside the model.
func (b *both) runs(fuel int, stop int, want ...string) *both {
	b.t.Helper()
	l, why := b.run(fuel)
	if got := firedLines(l); why != stop || !slices.Equal(got, want) {
		b.t.Fatalf("Run of %d: got %s, %d, want %s, %d", fuel, brief(got), why, brief(want), stop)
	}
	return b
}

// to fails, unless those are what is to be done, each time that it is asked.
func (b *both) to(want ...string) *both {
	b.t.Helper()
	for range 2 {
		if got := todo(owned(b.e.Agenda())); !slices.Equal(got, want) {
			b.t.Fatalf("to be done: got %s, want %s", brief(got), brief(want))
		}
	}
	return b
}

// sets fails, unless a rule's Set tells those, each time that it is asked.
func (b *both) sets(rule int, want ...string) *both {
	b.t.Helper()
	for range 2 {
		if got := lines(owned(b.e.Set(rule))); !slices.Equal(got, want) {
			b.t.Fatalf("rule %d: got %s, want %s", rule, brief(got), brief(want))
		}
	}
	return b
}

// has fails, unless those are all facts, each time that they are asked for.
func (b *both) has(want ...string) *both {
	b.t.Helper()
	for range 2 {
		if got := factLines(owned(b.e.Facts())); !slices.Equal(got, want) {
			b.t.Fatalf("facts: got %s, want %s", brief(got), brief(want))
		}
	}
	return b
}

// next fails, unless a fact that comes is given the next number; it goes again.
func (b *both) next() {
	b.t.Helper()
	want := b.m.given + 1
	id, err := b.assert("e", nil)
	if id != want || err != api.OK {
		b.t.Fatalf("got %d, %d, want %d", id, err, want)
	}
	b.goes(id)
}

// empty has all facts go, and fails unless as much is held as at first.
func (b *both) empty() {
	b.t.Helper()
	for len(b.m.facts) > 0 {
		b.goes(b.m.facts[len(b.m.facts)/2].Id)
	}
}
