package world_test

import (
	"fmt"
	"strings"
	"testing"

	"tribunal/api"
	"tribunal/engine"
	"tribunal/parse"
	"tribunal/world"
)

// stillLines is lines of each kind that change nothing, with any facts.
func stillLines() []string {
	l := []string{"( facts )", "( agenda )", "( query ( ) )", "( query ( ( p ( a ?x ) ) ) )", "( query ( ( not ( e ) ) ( let ?n count ?x ( ) ( ( p ( a ?x ) ) ) ) ) )", "", " ", "\n", "#", "x", "()", "( nothing )", "( assert )", "( assert nothere )", "( assert p )", "( assert p 1 2 3 )", "( assert p 1 'a )", "( assert p 1 x )", "( retract 0 )", "( retract 999999999 )", "( retract -1 )", "( modify 0 )", "( modify 999999999 ( a 1 ) )", "( modify x )", "( run )", "( run -1 )", "( run 1000000000 )", "( run 1", "( agenda", "facts )", "( facts ) ( run 1 )", "( run 0 )"}
	for _, s := range wrongConds() {
		l = append(l, "( query "+s+" )")
	}
	for s := range badConds() {
		l = append(l, "( query ( "+s+" ) )")
	}
	return l
}

// still fails, unless a world that is told lines between others tells of all others what one tells that is told these alone, and leaves the same.
func still(t *testing.T, text string, lines []string, between func(i int, w *world.World) []string) {
	t.Helper()
	w, alone, more := worldOf(t, text), worldOf(t, text), 0
	for i, line := range lines {
		for _, other := range between(i, w) {
			facts := w.Facts()
			asked := w.Do("( facts )") + w.Do("( agenda )")
			told := w.Do(other)
			if now := w.Do("( facts )") + w.Do("( agenda )"); !alikeFacts(w.Facts(), facts) || now != asked {
				t.Fatalf("%s, %s, %s: told %s, was %s, is %s", brief(text), brief(lines[:i]), brief(other), brief(told), brief(asked), brief(now))
			}
			more += 5
		}
		if got, want := w.Do(line), alone.Do(line); got != want {
			t.Fatalf("%s, %s: got %s, want %s", brief(text), brief(lines[:i+1]), brief(got), brief(want))
		}
	}
	if !alikeFacts(w.Facts(), alone.Facts()) || w.Done() != alone.Done()+more {
		t.Fatalf("%s: %s and %s, %d and %d", brief(text), brief(w.Facts()), brief(alone.Facts()), w.Done(), alone.Done())
	}
	const behind = "( agenda )\n( assert p 7 8 )\n( run 50 )\n( agenda )\n( facts )"
	if got, want := w.Script(behind), alone.Script(behind); got != want {
		t.Fatalf("%s: behind that got %s, want %s", brief(text), brief(got), brief(want))
	}
}

// P22.3 (still): a query, facts, agenda, and what is told as an error, change no fact, nor what is to be done, nor the next fact's number: each of them, behind each line of a script.
func TestStill(t *testing.T) {
	lines := []string{"( assert p 1 2 )", "( assert e )", "( run 1 )", "( assert w 1 \"t\" 'a true )", "( run 2 )", "( modify 1 ( a 4 ) )", "( assert q 1 'a )", "( retract 2 )", "( run 99 )", "( assert e )", "( run 1 )", "( assert p 0 0 )"}
	still(t, templates+broad, lines, func(int, *world.World) []string { return stillLines() })
}

// P22.3: facts' errors of what is there, or was, behind each line: the next fact has the next number.
func TestWrongIsNoNumber(t *testing.T) {
	b := ofRules(t, broad)
	wrong := map[api.Errno][]string{
		api.ErrArg:  {"( assert p 1 )", "( assert e 1 )", "( modify %d ( z 1 ) )", "( modify %d ( a 1 ) ( a 1 ) )"},
		api.ErrNone: {"( assert nothere )", "( retract 0 )", "( modify 0 ( a 1 ) )", "( query ( ( nothere ) ) )"},
		api.ErrType: {"( assert p 'a 1 )", "( modify %d ( a 'a ) )", "( modify %d ( b 1 ) ( a none ) )", "( query ( ( p ( a 'a ) ) ) )"},
		api.ErrForm: {"( assert p 1 2", "( retract %d ) )", "( modify %d ( a 1 )", "( modify %d ( a x ) )", "( retract %d %[1]d )", "( run 1 ) )", "( modify %d a 1 )"},
	}
	for i := range 20 {
		b.tells(fmt.Sprintf("( assert p %d 1 )", i), fmt.Sprint("fact ", i+1))
		for err, l := range wrong {
			for _, line := range l {
				if strings.Contains(line, "%") {
					line = fmt.Sprintf(line, i+1)
				}
				b.fails(err, line)
			}
		}
		if i%3 == 2 {
			b.does("( run 1 )")
		}
	}
}

// P22.3: random lines, right and wrong, by the thousand, with facts and agenda asked ahead and behind.
func TestStillOfAny(t *testing.T) {
	m, count := newMaker(7), map[string]int{}
	for range 60 {
		b := of(t, m.program(t))
		for range 20 {
			b.do(m.step(b))
		}
		still(t, b.text, b.lines, func(i int, w *world.World) []string {
			var l []string
			for range 3 {
				// Another world is asked first, as a line may change something that was meant to be wrong.
				other := worldOf(t, b.text)
				for _, line := range b.lines[:i] {
					other.Do(line)
				}
				if line := m.still(w.Facts()); stillTold(line, other.Do(line)) {
					l = append(l, line)
				}
			}
			return l
		})
	}
	for range 400 {
		b := of(t, m.program(t))
		for range 8 {
			b.do(m.step(b))
		}
		for range 12 {
			line := m.still(b.w.Facts())
			facts, was := b.w.Facts(), b.state()
			told := b.do(line)
			if !stillTold(line, told) {
				continue
			}
			if now := b.state(); now != was || !alikeFacts(facts, b.w.Facts()) {
				t.Fatalf("%s, %s, %s: was %s, is %s", brief(b.text), brief(b.lines), brief(line), brief(was), brief(now))
			}
			count[strings.SplitAfter(told, "\n")[0]]++
			count["all"]++
		}
	}
	if count["all"] < 3500 || count["error 12\n"] < 800 || count["error 3\n"] < 300 || count["end\n"] < 500 {
		t.Errorf("just %v", count)
	}
}

// stillTold tells whether a line is one that changes nothing, by what it told.
func stillTold(line, told string) bool {
	asks := strings.Contains(line, "query") || strings.Contains(line, "facts") || strings.Contains(line, "agenda")
	return strings.HasPrefix(told, "error ") && strings.Count(told, "\n") == 1 || asks && strings.HasSuffix(told, "end\n")
}

// P22.1 (V1), P21.1: Facts, and what is told, is engine's of the same calls.
func TestFactsAreEngines(t *testing.T) {
	text := templates + "(rule r 0 ((as ?f (p (a ?x))) (if < ?x 3)) ((modify ?f (a (+ ?x 1)))))"
	p, _, _ := parse.Parse(text)
	e, _, _ := engine.New(p)
	w := worldOf(t, text)
	same := func(line, told string) {
		t.Helper()
		if got := w.Do(line); got != told {
			t.Fatalf("%s: got %s, want %s", line, brief(got), brief(told))
		}
		if got, want := w.Facts(), e.Facts(); !alikeFacts(got, want) {
			t.Fatalf("%s: got %s, want %s", line, brief(got), brief(want))
		}
	}
	num := func(s string) api.Value { return api.Value{Kind: api.Num, S: s} }
	e.Assert("p", []api.Value{num("1"), num("-1/2")})
	same("( assert p 1 -1/2 )", "fact 1\n")
	e.Assert("q", []api.Value{num("0"), {Kind: api.Sym, S: "red"}})
	same("( assert q 0 'red )", "fact 2\n")
	e.Assert("w", []api.Value{num("5"), {Kind: api.Text, S: "a \\ b"}, {Kind: api.Sym, S: "none"}, {Kind: api.Bool, S: "false"}})
	same(`( assert w 5 "a \ b" 'none false )`, "fact 3\n")
	e.Run(1)
	same("( run 1 )", "fired r f=#1 x=1 #1 \nfuel\n")
	e.Modify(2, []api.Put{{Name: "s", V: api.Value{Kind: api.Sym, S: "a"}}, {Name: "a", V: num("9")}})
	same("( modify 2 ( s 'a ) ( a 9 ) )", "fact 5\n")
	e.Retract(3)
	same("( retract 3 )", "ok\n")
	e.Run(9)
	same("( run 9 )", "fired r f=#4 x=2 #4 \nempty\n")
	e.Assert("e", nil)
	same("( assert e )", "fact 7\n")
	if l := w.Facts(); len(l) != 3 || l[0].Id != 5 || l[1].Id != 6 || l[2].Id != 7 || l[1].Vals[0] != num("3") || l[0].Vals[1].S != "a" {
		t.Errorf("got %s", brief(l))
	}
}

// asserted is a line that makes a fact known again.
func asserted(f api.Fact) string {
	line := "( assert " + f.Tmpl
	for _, v := range f.Vals {
		line += " " + written(v)
	}
	return line + " )\n"
}

// T5 (facts alone): two scripts without runs whose facts, with their numbers, come to be the same tell the same to facts, agenda and queries behind them.
func TestFactsAlone(t *testing.T) {
	m, all := newMaker(8), 0
	for range 250 {
		b := of(t, m.program(t))
		for range 25 {
			if line := m.step(b); !strings.Contains(line, "run") {
				b.do(line)
			}
		}
		// The same facts, and others that have gone where theirs have: at once, or at the end.
		facts, script, late := b.w.Facts(), "", ""
		next := 1
		for _, f := range facts {
			for ; next < f.Id; next++ {
				if script += one(m, "( assert e )\n", "( assert p 1 1 )\n", "( assert q 1 'a )\n"); m.Intn(2) == 0 {
					script += fmt.Sprintf("( retract %d )\n", next)
				} else {
					late = fmt.Sprintf("( retract %d )\n", next) + late
				}
			}
			script, next = script+asserted(f), next+1
		}
		w := worldOf(t, b.text)
		w.Script(script + late)
		if !alikeFacts(w.Facts(), facts) {
			t.Fatalf("%s: got %s, want %s", brief(script+late), brief(w.Facts()), brief(facts))
		}
		behind := []string{"( facts )", "( agenda )"}
		for range 10 {
			behind = append(behind, "( query ("+m.conds()+") )")
		}
		for _, line := range behind {
			if got, want := w.Do(line), b.do(line); got != want {
				t.Fatalf("%s, %s, %s: got %s, want %s", brief(b.text), brief(b.lines), brief(line), brief(got), brief(want))
			}
		}
		all += len(facts)
	}
	if all < 700 {
		t.Errorf("just %d", all)
	}
}

// T1 (denotation), T2 (folds): what a rule's conditions hold for, as all of it is told at the agenda, is what a query of these conditions tells, behind any lines without runs.
func TestAgendaIsQueries(t *testing.T) {
	m, rows := newMaker(9), 0
	for range 400 {
		b := of(t, m.program(t))
		for range 15 {
			if line := m.step(b); !strings.Contains(line, "run") {
				b.do(line)
			}
		}
		agenda := strings.SplitAfter(b.do("( agenda )"), "\n")
		for _, rule := range strings.Split(b.text[len(templates):], "(rule ")[1:] {
			name, behind, _ := strings.Cut(rule, " ")
			// The conditions stand behind the salience, up to where the actions begin.
			_, behind, _ = strings.Cut(behind, " ")
			want := strings.SplitAfter(b.do("( query "+firstList(behind)+" )"), "\n")
			want = want[:len(want)-2]
			many := 0
			for _, line := range agenda {
				if text, is := strings.CutPrefix(line, name+" "); is {
					if many++; strings.Count(strings.Join(want, "|"), text) == 0 {
						t.Fatalf("%s, %s: %s of %s", brief(b.text), brief(b.lines), brief(line), brief(want))
					}
				}
			}
			if many != len(want) {
				t.Fatalf("%s, %s: got %s, want %s", brief(b.text), brief(b.lines), brief(agenda), brief(want))
			}
			rows += many
		}
	}
	if rows < 1000 {
		t.Errorf("just %d", rows)
	}
}

// firstList is the first list of a text, with its brackets.
func firstList(s string) string {
	open, quoted := 0, false
	for i := range len(s) {
		quoted = quoted != (s[i] == '"')
		if quoted {
			continue
		}
		open += strings.Count(s[i:i+1], "(") - strings.Count(s[i:i+1], ")")
		if open == 0 {
			return s[:i+1]
		}
	}
	return s
}
