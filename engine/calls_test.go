package engine_test

import (
	"fmt"
	"testing"

	"tribunal/api"
)

// broad is rules that any fact changes.
const broad = `
(rule r0 0 ((p (a ?x) (b ?y))) ((print ?x))) (rule r1 3 ((not (p))) ()) (rule r2 0 ((let ?n count ?f () ((as ?f (p))))) ((print ?n))) (rule r3 -1 ((as ?f (q (s ?s)))) ((print ?s)))
(rule r4 1 ((e)) ()) (rule r5 0 ((w (n ?n) (t ?t) (s ?s) (b ?b))) ((print ?t))) (rule r6 0 () ()) (rule r7 0 ((let ?l set ?f () ((as ?f (w))))) ()) (rule r8 0 ((as ?f (u)) (p (a ?x))) ())`

// fails fails, unless a call tells an error, and 0 beside it, and nothing has changed by it: not the next number either.
func (b *both) fails(want api.Errno, call func() (int, api.Errno)) {
	b.t.Helper()
	was := stateOf(b.e, len(b.m.p.Rules))
	id, err := call()
	if id != 0 || err != want {
		b.t.Fatalf("got %d, %d, want error %d", id, err, want)
	}
	if s := unlike(was, stateOf(b.e, len(b.m.p.Rules))); s != "" {
		b.t.Fatalf("error %d has changed: %s", err, s)
	}
	b.next()
}

func (b *both) failsToAssert(want api.Errno, tmpl string, vals ...api.Value) {
	b.t.Helper()
	b.fails(want, func() (int, api.Errno) { return b.assert(tmpl, vals) })
}

func (b *both) failsToRetract(want api.Errno, id int) {
	b.t.Helper()
	b.fails(want, func() (int, api.Errno) { return 0, b.retract(id) })
}

func (b *both) failsToModify(want api.Errno, id int, l ...api.Put) {
	b.t.Helper()
	b.fails(want, func() (int, api.Errno) { return b.modify(id, l) })
}

// stages is an engine of broad with no facts, with some, with all done, and with some gone.
func stages(t *testing.T, each func(b *both)) {
	t.Helper()
	b := ofText(t, broad)
	each(b)
	b.comes("p 1 2", "q 1 'a", "w 1 \"t\" 'a true", "u 3 4", "e")
	each(b)
	b.run(3)
	each(b)
	b.run(99)
	each(b)
	b.turns(b.m.facts[0].Id, "a=7", b.m.given+1)
	b.goes(b.m.facts[0].Id)
	each(b)
	b.empty()
	each(b)
}

// P21.1 (U1), P21.5: Assert of a template that there is none of, of too few and too many values, of values of another kind, and of wrong ones, tells facts' error, and changes nothing.
func TestWrongAsserts(t *testing.T) {
	stages(t, func(b *both) {
		for _, name := range []string{"", "P", "nothere", "p ", "not", "r0", "a", "\xff"} {
			b.failsToAssert(api.ErrNone, name)
			b.failsToAssert(api.ErrNone, name, num("1"), num("2"))
		}
		for _, s := range []string{"p", "p 1", "p 1 2 3", "p 'a", "e 1", "e none", "q 1", "q 1 'a 'a", "w 1 \"\" 'a"} {
			name, vals := fact(s)
			b.failsToAssert(api.ErrArg, name, vals...)
		}
		for _, s := range []string{"p 'a 1", "p 1 'a", "p none 1", "p 1 #1", "p 1 {1}", "p true 1", "p \"1\" 1", "p 01 1", "p 1 2/2", "p 1/0 1", "p 1 -0", "p x 1", "p " + nines(301) + " 1", "q 'a 1", "q 1 \"a\"", "q 1 'A", "w 1 'a \"\" true", "w 1 \"\" 'a 'true", "w 1 \"\" 'a True"} {
			name, vals := fact(s)
			b.failsToAssert(api.ErrType, name, vals...)
		}
		for _, v := range []api.Value{{Kind: 9, S: "1"}, {Kind: -1, S: "1"}, {Kind: api.Num}, text("\n"), sym("\xff"), value(api.Bool, "True"), {}} {
			for at := range 4 {
				_, vals := fact("w 1 \"\" 'a true")
				vals[at] = v
				b.failsToAssert(api.ErrType, "w", vals...)
			}
		}
	})
}

// P21.1 (U1), P21.5: Retract and Modify of a number that there is no fact of: 0, below 0, one that is to come, that was retracted, that was modified, and both ends of the integers.
func TestNoSuchFact(t *testing.T) {
	stages(t, func(b *both) {
		gone := append(edges(), b.m.given+20, b.m.given+1000)
		for _, id := range []int{1, 2, 3, 4, 5, 6, 7, b.m.given - 1, b.m.given} {
			if id <= b.m.given && b.m.at(id) < 0 {
				gone = append(gone, id)
			}
		}
		for _, id := range gone {
			b.failsToRetract(api.ErrNone, id)
			for _, s := range []string{"", "a=1", "z=1", "a=1 a=1", "a=none"} {
				b.failsToModify(api.ErrNone, id, puts(s)...)
			}
		}
	})
}

// P21.1 (U1), P21.5: Modify of a slot that there is none of, of one twice, and of a value of another kind, or a wrong one.
func TestWrongModifies(t *testing.T) {
	b := ofText(t, broad).comes("p 1 2", "q 1 'a", "w 1 \"t\" 'a true", "e")
	for range 2 {
		for id, l := range map[int][]string{1: {"s=1", "a=1 s=1", "=1", "A=1", "a=1 a=1", "a=1 a=2", "a=1 b=1 a='x", "p=1"}, 2: {"b=1", "s='a s='a"}, 3: {"a=1", "n=1 n=1"}, 4: {"a=1", "=1", "e=1"}} {
			for _, s := range l {
				b.failsToModify(api.ErrArg, id, puts(s)...)
			}
		}
		for id, l := range map[int][]string{1: {"a='x", "b='x", "a=1 b='x", "a='x b=1", "a=none", "a=#1", "a={1}", "a=01", "b=2/2", "a=" + nines(301)}, 2: {"s=1", "s=\"a\"", "s='A", "a='a s='a"}, 3: {"b='true", "t='a", "n=1 t=\"\" s=1 b=true", "b=True"}} {
			for _, s := range l {
				b.failsToModify(api.ErrType, id, puts(s)...)
			}
		}
		b.run(99)
	}
	b.has("1 p 1 2", "2 q 1 'a", "3 w 1 \"t\" 'a true", "4 e")
}

// full is an engine of as many facts as there may be, and of that program.
func full(t *testing.T, rules string) *both {
	t.Helper()
	b := ofText(t, rules)
	for i := range api.MaxFacts {
		vals := []api.Value{num(fmt.Sprint(i)), num("0")}
		b.m.facts = append(b.m.facts, api.Fact{Id: i + 1, Tmpl: "u", Vals: vals})
		if id, err := b.e.Assert("u", vals); id != i+1 || err != api.OK {
			t.Fatalf("got %d, %d", id, err)
		}
	}
	b.m.given = api.MaxFacts
	b.m.anew()
	b.check()
	return b
}

// P21.1 (U1), P21.5: one fact more than there may be: ErrTooMany, and nothing has changed; a wrong one is told as that; a modified one is not one more.
func TestOneTooMany(t *testing.T) {
	b := full(t, "(rule r0 0 ((let ?n count ?f () ((as ?f (u))))) ((print ?n))) (rule r1 0 ((e)) ())")
	for range 3 {
		was := stateOf(b.e, 2)
		for s, want := range map[string]api.Errno{"e": api.ErrTooMany, "p 1 2": api.ErrTooMany, "e 1": api.ErrArg, "p 1 'a": api.ErrType, "nothere": api.ErrNone} {
			if id, err := b.assert(fact(s)); id != 0 || err != want {
				t.Fatalf("%s: got %d, %d, want %d", s, id, err, want)
			}
		}
		if s := unlike(was, stateOf(b.e, 2)); s != "" {
			t.Fatal(s)
		}
		b.turns(b.m.facts[0].Id, "a=0", b.m.given+1)
	}
	b.goes(300)
	b.comes("e")
	b.to("1 #304", "0 n=299")
	b.failsFull()
	b.runs(9, api.StopEmpty, "1 #304: 0", "0 n=299 > 299: 1")
	b.failsFull()
}

// failsFull fails, unless there may be no fact more.
func (b *both) failsFull() {
	b.t.Helper()
	if id, err := b.assert("e", nil); id != 0 || err != api.ErrTooMany {
		b.t.Fatalf("got %d, %d", id, err)
	}
}

// P21.1 (U1): a fact that comes, or goes, by its number; one that is modified goes, and one of the next number comes, also if nothing else is changed; no number is given twice.
func TestCalls(t *testing.T) {
	b := ofText(t, broad)
	b.to("1", "2 n=0", "6", "7 l={}")
	b.comes("p 1 2").has("1 p 1 2").to("0 x=1 y=2 #1", "2 n=1", "6", "7 l={}").sets(0, "x=1 y=2 #1").sets(1).sets(2, "n=1")
	b.comes("e", "q 3/2 'red", "w -1 \"a,b\" 'a true").has("1 p 1 2", "2 e", "3 q 3/2 'red", "4 w -1 \"a,b\" 'a true")
	b.to("4 #2", "5 b=true n=-1 s='a t=\"a,b\" #4", "0 x=1 y=2 #1", "2 n=1", "6", "7 l={#4}", "3 f=#3 s='red #3")
	b.turns(1, "", 5).has("2 e", "3 q 3/2 'red", "4 w -1 \"a,b\" 'a true", "5 p 1 2").sets(0, "x=1 y=2 #5")
	b.turns(5, "b=7", 6).has("2 e", "3 q 3/2 'red", "4 w -1 \"a,b\" 'a true", "6 p 1 7").sets(0, "x=1 y=7 #6")
	b.turns(6, "b=1 a=0", 7).turns(4, "b=false t=\"\"", 8).turns(2, "", 9).turns(3, "s='red", 10)
	b.has("7 p 0 1", "8 w -1 \"\" 'a false", "9 e", "10 q 3/2 'red")
	b.to("4 #9", "5 b=false n=-1 s='a t=\"\" #8", "0 x=0 y=1 #7", "2 n=1", "6", "7 l={#8}", "3 f=#10 s='red #10")
	b.goes(8).goes(9).has("7 p 0 1", "10 q 3/2 'red").to("0 x=0 y=1 #7", "2 n=1", "6", "7 l={}", "3 f=#10 s='red #10")
	b.goes(10, 7).has().to("1", "2 n=0", "6", "7 l={}")
	b.comes("p 1 2").has("11 p 1 2").turns(11, "a=1", 12).goes(12)
	b.comes("p 1 2", "p 1 2", "p 1 2").has("13 p 1 2", "14 p 1 2", "15 p 1 2").sets(2, "n=3").turns(14, "", 16).has("13 p 1 2", "15 p 1 2", "16 p 1 2")
	b.empty()
	b.next()
	b.to("1", "2 n=0", "6", "7 l={}")
}

// P21.1 (U1): numbers rise by one, whatever comes and goes, by whomever.
func TestNumbers(t *testing.T) {
	b := ofText(t, "(rule r 0 ((as ?f (q (a ?x)))) ((retract ?f) (assert p (a ?x) (b 0)) (retract ?f) (assert e)))")
	for i := range 30 {
		want := 3*i + 1
		if id, _ := b.assert(fact("q 1 'a")); id != want {
			t.Fatalf("got %d, want %d", id, want)
		}
		if i%2 == 0 {
			b.runs(5, api.StopEmpty, fmt.Sprintf("0 f=#%d x=1 #%d: 2, error 3", want, want))
			b.turns(want+1, "b=1", want+2)
			b.goes(want + 2)
		} else {
			b.turns(want, "", want+1).runs(1, api.StopEmpty, fmt.Sprintf("0 f=#%d x=1 #%d: 2, error 3", want+1, want+1)).goes(want + 2)
		}
	}
}
