package world_test

import (
	"fmt"
	"strings"
	"testing"

	"tribunal/world"
)

// byLines is what a script has to tell, and how many lines of it are done, cut by hand.
func byLines(w *world.World, text string) (string, int) {
	told, done, line := "", 0, ""
	for i := 0; i <= len(text); i++ {
		if i < len(text) && text[i] != '\n' {
			line += text[i : i+1]
			continue
		}
		if len(strings.ReplaceAll(strings.ReplaceAll(strings.ReplaceAll(line, " ", ""), "\t", ""), "\r", "")) > 0 {
			told += w.Do(line)
			done++
		}
		line = ""
	}
	return told, done
}

// scripts fails, unless a script tells that, and has that many lines done.
func scripts(t *testing.T, w *world.World, text, want string, lines int) {
	t.Helper()
	was := w.Done()
	if got := w.Script(text); got != want || w.Done() != was+lines {
		t.Fatalf("%s: got %s, %d, want %s, %d", brief(text), brief(got), w.Done()-was, brief(want), lines)
	}
}

// P22.1 (V2): a script of nothing, of line feeds alone, and of lines of the bytes 32, 9 and 13 alone tells nothing, and nothing is done; one of lines that are blank to the eye alone is of wrong lines.
func TestScriptOfBlanks(t *testing.T) {
	w := worldOf(t, templates)
	for _, s := range []string{"", "\n", "\n\n", times("\n", 10000), " ", "\t", "\r", " \t\r", times(" ", 10000), " \n\t\n\r\n \t\r \n", "\n \n", "\r\n\r\n", " \n", "\n "} {
		scripts(t, w, s, "", 0)
	}
	for _, s := range []string{"\v", "\f", "\x00", "\xa0", "\u00a0", "\u0085", "\u2028", "\u200b", "\x1c", "\x1f", "\b", "\x7f", "\xff", "\ufeff", " \v ", "\t\x00", "\xa0\r"} {
		scripts(t, w, s, "error 12\n", 1)
		scripts(t, w, s+"\n"+s, "error 12\nerror 12\n", 2)
		scripts(t, w, "\n \n"+s+"\n\t\n( facts )\n", "error 12\nend\n", 2)
		if got := w.Do(s); got != "error 12\n" {
			t.Errorf("%q: got %q", s, got)
		}
	}
	if w.Done() != 17*(1+2+2+1) {
		t.Errorf("%d were done", w.Done())
	}
}

// P22.1 (V2): lines are cut at line feeds, and nowhere else; one behind the last one is a line, too; those that end by 13 and 10 are the same.
func TestScriptLines(t *testing.T) {
	w := worldOf(t, templates)
	scripts(t, w, "( assert e )", "fact 1\n", 1)
	scripts(t, w, "( assert e )\n", "fact 2\n", 1)
	scripts(t, w, "\n( assert e )", "fact 3\n", 1)
	scripts(t, w, "( assert e )\n( assert e )", "fact 4\nfact 5\n", 2)
	scripts(t, w, "( assert e )\r\n( assert e )\r\n", "fact 6\nfact 7\n", 2)
	scripts(t, w, "\n\n ( assert e )\t\n \r\n\n(assert e) \n", "fact 8\nfact 9\n", 2)
	// Other ends of lines are none: two lines in one, or bytes that are no token's.
	scripts(t, w, "( assert e )\r( assert e )", "error 12\n", 1)
	scripts(t, w, "( assert e )\v( assert e )", "error 12\n", 1)
	scripts(t, w, "( assert e )\u2028( assert e )", "error 12\n", 1)
	scripts(t, w, "( assert e )\x00\n( facts", "error 12\nerror 12\n", 2)
	scripts(t, w, "( assert\ne )", "error 12\nerror 12\n", 2)
	scripts(t, w, "(\nassert\ne\n)", times("error 12\n", 4), 4)
	// A text with a line feed in it is cut by that; both lines are wrong.
	scripts(t, w, "( assert w 1 \"a\nb\" 'a true )", "error 12\nerror 12\n", 2)
	scripts(t, w, "( assert w 1 \"\n\" 'a true )\n( assert e )", "error 12\nerror 12\nfact 10\n", 3)
	scripts(t, w, "( assert w 1 \"\\n\" 'a true )", "fact 11\n", 1)
	if got := w.Do("( assert\ne )"); got != "fact 12\n" {
		t.Errorf("got %q", got)
	}
	scripts(t, w, "( retract 11 )\n( retract 11 )\nfacts\n( query ( ( p ) ) )\n( agenda )\n( run 1 )\n( modify 1 )\n", "ok\nerror 3\nerror 12\nend\nend\nempty\nfact 13\n", 7)
}

// P22.1 (V2): Done is how many lines were done: wrong ones, too, and blank ones that Do is asked for, but not those that Script leaves out; Facts and Done are no lines.
func TestDone(t *testing.T) {
	w, want := worldOf(t, templates+"(rule r 0 ((e)) ((assert p (a 1) (b 2))))"), 0
	is := func(more int) {
		t.Helper()
		want += more
		for range 2 {
			if got := w.Done(); got != want {
				t.Fatalf("got %d, want %d", got, want)
			}
			w.Facts()
		}
	}
	is(0)
	for _, line := range append(rightLines(), "", " ", "\n", "#", "( nothing )", "(", "\n\n\n", "( facts ) ( facts )", times(" ", 9000), "( assert nothere )", "( retract 99 )", "( query ( ( z ) ) )", "( assert e )", "( run 5 )") {
		w.Do(line)
		is(1)
		w.Script(line)
		if strings.Trim(line, " \n") == "" {
			is(0)
		} else {
			is(1)
		}
	}
	w.Script("")
	w.Script("\n\r\n \t\n")
	is(0)
	w.Script("( facts )\n\n( facts )\nx\n \n)")
	is(4)
	w.Script(times("a\n", 1000))
	is(1000)
}

// script is lines, some of them blank, with all sorts of ends; a world of that text is told them as they are made, so that most are right.
func (m maker) script(t testing.TB, b *both, most int) string {
	t.Helper()
	s := m.some(2, "\n", " \n", "\t\r\n")
	for range m.Intn(most + 1) {
		line := strings.ReplaceAll(m.step(b), "\n", " ")
		if m.Intn(3) == 0 {
			line = m.spread(line)
		}
		if strings.Trim(line, " \t\r") != "" {
			b.do(line)
		}
		s += line + one(m, "\n", "\n", "\n", "\r\n", "\n\n", "\n \t\r\n", " \n")
	}
	if m.Intn(3) == 0 {
		s = strings.TrimRight(s, "\n")
	}
	return s
}

// P22.1 (V2): random scripts tell what another one tells, line by line, what Do tells of each line, on a new world, and what is done by hand; all leave the same.
func TestAnyScripts(t *testing.T) {
	m, lines, count := newMaker(4), 0, map[string]int{}
	for range 400 {
		b := of(t, m.program(t))
		text := m.script(t, b, 30)
		w, hand, other := worldOf(t, b.text), worldOf(t, b.text), newTeller(t, b.text)
		told := w.Script(text)
		want, done := byLines(hand, text)
		tellers := ""
		for _, line := range b.lines {
			tellers += other.do(line)
		}
		if told != want || told != tellers || w.Done() != done || done != len(b.lines) {
			t.Fatalf("%s, %s: got %s, %d, want %s, %d, or %s, %d", brief(b.text), brief(text), brief(told), w.Done(), brief(want), done, brief(tellers), len(b.lines))
		}
		if !alikeFacts(w.Facts(), hand.Facts()) || !alikeFacts(w.Facts(), b.w.Facts()) || w.Do("( agenda )") != hand.Do("( agenda )") {
			t.Fatalf("%s, %s: other facts are left", brief(b.text), brief(text))
		}
		lines += done
		for _, one := range strings.SplitAfter(told, "\n") {
			count[strings.TrimRight(one, "\n0123456789")]++
			if first, _, is := strings.Cut(one, " "); is && first == "fired" {
				count["fired"]++
			}
			if strings.HasPrefix(one, "error") {
				count[one]++
			}
		}
	}
	for what, least := range map[string]int{"fact ": 1500, "ok": 200, "end": 200, "empty": 300, "fuel": 200, "halt": 30, "fired": 500, "error 12\n": 300, "error 1\n": 30, "error 3\n": 50, "error 31\n": 20} {
		if count[what] < least {
			t.Errorf("%q: just %d times", what, count[what])
		}
	}
	if lines < 4500 {
		t.Errorf("just %d lines", lines)
	}
}

// P22.1, P3: behind any lines the world has the facts that another one has, and another world of the same text, that is told the same lines.
func TestAnyLines(t *testing.T) {
	m := newMaker(5)
	for range 150 {
		b := of(t, m.program(t))
		for i := range 25 {
			b.do(m.step(b))
			if i%6 == 5 {
				other := b.again()
				if !alikeFacts(other.Facts(), b.w.Facts()) || other.Done() != b.w.Done() {
					t.Fatalf("%s, %s: got %s, %s", brief(b.text), brief(b.lines), brief(b.w.Facts()), brief(other.Facts()))
				}
				if got, want := other.Do("( agenda )"), b.do("( agenda )"); got != want {
					t.Fatalf("%s, %s: got %s, want %s", brief(b.text), brief(b.lines), brief(got), brief(want))
				}
			}
		}
	}
}

// inParts fails, unless two scripts, one behind the other, tell what one of both, with a line feed between, tells; and leave the same.
func inParts(t *testing.T, text, first, second string) {
	t.Helper()
	whole, parts := worldOf(t, text), worldOf(t, text)
	got := whole.Script(first + "\n" + second)
	if want := parts.Script(first) + parts.Script(second); got != want {
		t.Fatalf("%s, %s: got %s, want %s", brief(first), brief(second), brief(got), brief(want))
	}
	if !alikeFacts(whole.Facts(), parts.Facts()) || whole.Done() != parts.Done() {
		t.Fatalf("%s, %s: %s and %s, %d and %d", brief(first), brief(second), brief(whole.Facts()), brief(parts.Facts()), whole.Done(), parts.Done())
	}
	const behind = "( agenda )\n( facts )\n( query ( ( p ( a ?x ) ) ) )\n( assert p 1 2 )\n( run 3 )\n( agenda )\n( modify 1 )\n( facts )"
	if got, want := whole.Script(behind), parts.Script(behind); got != want {
		t.Fatalf("%s, %s: behind that got %s, want %s", brief(first), brief(second), brief(got), brief(want))
	}
}

// P22.2 (in parts): two scripts, one behind the other, with a line feed between, tell what both tell: where either one is empty, or blank, where it ends with a line feed, or not, and where a line is wrong.
func TestInParts(t *testing.T) {
	text := templates + broad
	l := []string{"", "\n", " ", "\r", " \n\t", "( assert p 1 2 )", "( assert p 1 2 )\n", "( assert p 0 1 )\r\n\n", "\n( assert e )", "( run 2 )", "( run 9 )\n( facts )\n", "( facts", "\"", "( assert w 1 \"a", "b\" 'a true )", "( modify 1 ( a 3 ) )\n( agenda )", "( retract 1 )\n( retract 1 )", "\v", "( query ( ( p ( a ?x ) ) ) )"}
	for _, first := range l {
		for _, second := range l {
			inParts(t, text, first, second)
		}
	}
}

// P22.2: of random scripts, cut anywhere between two lines; and so of three, and of each line by itself.
func TestAnyParts(t *testing.T) {
	m, cuts := newMaker(6), 0
	for range 150 {
		b := of(t, m.program(t))
		first, second := m.script(t, b, 12), m.script(t, b, 12)
		inParts(t, b.text, first, second)
		inParts(t, b.text, second, first)
		whole := first + "\n" + second
		for at := range whole {
			if whole[at] == '\n' {
				if cuts++; cuts%5 == 0 {
					inParts(t, b.text, whole[:at], whole[at+1:])
				}
			}
		}
		w, lines := worldOf(t, b.text), worldOf(t, b.text)
		told := ""
		for _, line := range strings.Split(whole, "\n") {
			told += lines.Script(line)
		}
		if got := w.Script(whole); got != told {
			t.Fatalf("%s: got %s, want %s", brief(whole), brief(got), brief(told))
		}
	}
	if cuts < 1500 {
		t.Errorf("just %d", cuts)
	}
}

// P1, P22.1: scripts of hundreds of lines, and of hundreds of facts.
func TestLongScript(t *testing.T) {
	w := worldOf(t, templates+"(rule sum 0 ((let ?n sum ?x () ((p (a ?x))))) ((print ?n))) (rule big 1 ((as ?f (p (a ?x))) (if > ?x 90)) ((modify ?f (a 0))))")
	script, want := "", ""
	for i := range 100 {
		script += fmt.Sprintf("( assert p %d 0 )\n\n", i)
		want += fmt.Sprintf("fact %d\n", i+1)
	}
	script, want = script+"( run 9 )\n", want+"fired big f=#100 x=99 #100 \nfired big f=#99 x=98 #99 \nfired big f=#98 x=97 #98 \nfired big f=#97 x=96 #97 \nfired big f=#96 x=95 #96 \nfired big f=#95 x=94 #95 \nfired big f=#94 x=93 #94 \nfired big f=#93 x=92 #93 \nfired big f=#92 x=91 #92 \nfuel\n"
	script, want = script+"( run 2 )\n", want+"fired sum n=4095 > 4095 \nempty\n"
	for i := range 91 {
		script += fmt.Sprintf("( retract %d )\r\n", i+1)
		want += "ok\n"
	}
	scripts(t, w, script+"( run 2 )\n( nothing )", want+"fired sum n=0 > 0 \nempty\nerror 12\n", 100+1+1+91+2)
	scripts(t, w, times("( assert e )\n", 291)+"( assert e )\n( assert e )", func() string {
		s := ""
		for i := range 291 {
			s += fmt.Sprintf("fact %d\n", i+110)
		}
		return s + "error 2\nerror 2\n"
	}(), 293)
	scripts(t, w, times("x\n", 100000), times("error 12\n", 100000), 100000)
	if l := w.Facts(); len(l) != 300 || l[299].Id != 400 {
		t.Errorf("got %d", len(l))
	}
}
