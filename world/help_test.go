package world_test

import (
	"fmt"
	"slices"
	"strings"
	"testing"

	"tribunal/api"
	"tribunal/lex"
	"tribunal/world"
)

// templates is what most programs of these tests have: some of the same slots, one of a symbol, one of none, and one of each type.
const templates = "(template p (a num) (b num)) (template q (a num) (s sym)) (template e) (template w (n num) (t text) (s sym) (b bool)) "

// times is s, n times.
func times(s string, n int) string { return strings.Repeat(s, n) }

// nines is a number of n nines.
func nines(n int) string { return times("9", n) }

// brief is how a thing is told to who reads a failure, cut if it is long.
func brief(a any) string {
	s := fmt.Sprintf("%q", a)
	if len(s) > 1200 {
		return s[:600] + ".." + s[len(s)-598:]
	}
	return s
}

// ended is lines, each with its line feed behind it.
func ended(l ...string) string {
	s := ""
	for _, line := range l {
		s += line + "\n"
	}
	return s
}

// wrongLine is what a line tells that is wrong.
func wrongLine(err api.Errno) string { return fmt.Sprintf("error %d\n", int(err)) }

// alikeFacts tells whether two lists are of the same facts; a list of none may be nil or not.
func alikeFacts(a, b []api.Fact) bool {
	return slices.EqualFunc(a, b, func(x, y api.Fact) bool {
		return x.Id == y.Id && x.Tmpl == y.Tmpl && slices.Equal(x.Vals, y.Vals)
	})
}

// worldOf is the world of a text; it fails, unless it is a program that may be.
func worldOf(t testing.TB, text string) *world.World {
	t.Helper()
	w, err, at := world.New(text)
	if w == nil || err != api.OK || at != 0 {
		t.Fatalf("%s: got %t, %d, %d", brief(text), w != nil, err, at)
	}
	if l := w.Facts(); len(l) > 0 || w.Done() != 0 {
		t.Fatalf("%s: of no lines there are %s, and %d were done", brief(text), brief(l), w.Done())
	}
	return w
}

// both is a world, what it has to be like, and all lines that were done so far.
type both struct {
	t     testing.TB
	text  string
	w     *world.World
	m     *teller
	lines []string
}

// of is the world of a text.
func of(t testing.TB, text string) *both {
	t.Helper()
	return &both{t: t, text: text, w: worldOf(t, text), m: newTeller(t, text)}
}

// ofRules is that of those templates, and of rules.
func ofRules(t testing.TB, rules string) *both {
	t.Helper()
	return of(t, templates+rules)
}

// check fails, unless the world has the facts, and has done as many lines, as it has to.
func (b *both) check() {
	b.t.Helper()
	got, want := b.w.Facts(), b.m.e.Facts()
	if !alikeFacts(got, want) || b.w.Done() != b.m.done {
		b.t.Fatalf("%s: got %s, %d, want %s, %d", brief(b.text), brief(got), b.w.Done(), brief(want), b.m.done)
	}
}

// do does a line, and fails, unless all is told as it has to be; what it tells.
func (b *both) do(line string) string {
	b.t.Helper()
	got, want := b.w.Do(line), b.m.do(line)
	if got != want {
		b.t.Fatalf("%s, %s: got %s, want %s", brief(b.text), brief(line), brief(got), brief(want))
	}
	b.lines = append(b.lines, line)
	b.check()
	return got
}

// tells fails, unless a line tells those lines, and nothing else.
func (b *both) tells(line string, want ...string) *both {
	b.t.Helper()
	if got := b.do(line); got != ended(want...) {
		b.t.Fatalf("%s: got %s, want %s", brief(line), brief(got), brief(ended(want...)))
	}
	return b
}

// does has lines be done, whatever they tell that is not wrong.
func (b *both) does(lines ...string) *both {
	b.t.Helper()
	for _, line := range lines {
		if got := b.do(line); strings.HasPrefix(got, "error") {
			b.t.Fatalf("%s: got %s", brief(line), brief(got))
		}
	}
	return b
}

// state is all that lines tell that change nothing.
func (b *both) state() string {
	b.t.Helper()
	return b.do("( facts )") + b.do("( agenda )")
}

// fails fails, unless each of those lines tells that error, and nothing else, and has changed nothing.
func (b *both) fails(want api.Errno, lines ...string) *both {
	b.t.Helper()
	was := b.state()
	for _, line := range lines {
		if got := b.do(line); got != wrongLine(want) {
			b.t.Fatalf("%s: got %s, want error %d", brief(line), brief(got), want)
		}
	}
	if now := b.state(); now != was {
		b.t.Fatalf("%s: was %s, is %s", brief(lines), brief(was), brief(now))
	}
	return b
}

// again is another world of the same text, that was told the same lines.
func (b *both) again() *world.World {
	b.t.Helper()
	w := worldOf(b.t, b.text)
	for _, line := range b.lines {
		w.Do(line)
	}
	return w
}

// pieces is a line's tokens, each as it stands in the line.
func pieces(t testing.TB, line string) []string {
	t.Helper()
	l, _, err := lex.Lex(line)
	if err != api.OK {
		t.Fatalf("%s: no tokens: %d", brief(line), err)
	}
	var s []string
	for _, one := range l {
		s = append(s, lex.Join([]api.Token{one}))
	}
	return s
}

// rightLines is lines of each kind, that are right whatever facts there are, but for their numbers.
func rightLines() []string {
	return []string{
		"( assert e )", "( assert p 1 2 )", "( assert q 1/2 'red )", `( assert w -3 "a (b) c" 'none true )`, "( retract 1 )", "( modify 2 )", "( modify 2 ( a 5 ) )", "( modify 2 ( b -1 ) ( a 1/3 ) )",
		"( run 0 )", "( run 2 )", "( query ( ) )", "( query ( ( p ) ) )", "( query ( ( as ?f ( p ( a ?x ) ) ) ( if < ?x 2 ) ) )", "( query ( ( not ( e ) ) ( let ?n count ?x ( ) ( ( p ( a ?x ) ) ) ) ) )", "( facts )", "( agenda )",
	}
}

// broad is rules that most facts change, of few firings.
const broad = `
(rule r0 0 ((p (a ?x) (b ?y))) ((print ?x) (print (/ ?x ?y)) (print ?y))) (rule r1 3 ((not (p))) ()) (rule r2 0 ((let ?n count ?f () ((as ?f (p))))) ((print ?n))) (rule r3 -1 ((as ?f (q (s ?s)))) ((print ?s) (print ?f)))
(rule r4 1 ((as ?f (e))) ((retract ?f) (halt))) (rule r5 0 ((w (n ?n) (t ?t) (s ?s) (b ?b))) ((print ?t) (print ?b))) (rule r6 0 () ()) (rule r7 0 ((let ?l set ?f () ((as ?f (w)))) (let ?m min ?x () ((p (a ?x))))) ((print ?l) (print ?m)))`
