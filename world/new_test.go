package world_test

import (
	"fmt"
	"strings"
	"testing"

	"tribunal/api"
	"tribunal/engine"
	"tribunal/parse"
	"tribunal/show"
	"tribunal/world"
)

// newFails fails, unless New of a text tells that error, and that place, and nil beside them.
func newFails(t *testing.T, text string, want api.Errno, place int) {
	t.Helper()
	for range 2 {
		if w, err, at := world.New(text); w != nil || err != want || at != place {
			t.Fatalf("%s: got %t, %d, %d, want %d, %d", brief(text), w != nil, err, at, want, place)
		}
	}
}

// noProgram fails, unless a text is told as wrong, for what stands behind its mark, which is not of the text.
func noProgram(t *testing.T, marked string) {
	t.Helper()
	ahead, behind, is := strings.Cut(marked, "^")
	if !is {
		t.Fatalf("%s: has no mark", brief(marked))
	}
	newFails(t, ahead+behind, api.ErrForm, len(ahead))
	const item = "(template a (b num))\n"
	newFails(t, item+ahead+behind, api.ErrForm, len(item+ahead))
}

// P22.1 (V1), P2: a text that has no tokens is told by lex's error, and its place, also where the program would be wrong ahead of that.
func TestNewOfNoTokens(t *testing.T) {
	for _, s := range []string{"^#", "^6/4", "^01", "^-0", "^1/1", "^\"open", "^?", "^?X", "^A", "^{1}", "^'", "^\x00", "^\xa0", "^\v", "^\f", "^\xff", "^é", "^\"a\nb\"", "(template a) ^#1", "(rule r 0 () ()) ^_", "(rule x y () ()) ^[", ") ^!", "(rule true 0 () ())^.", "^" + times("a", 25), "^" + nines(301), "^\"" + times("a", 101) + "\""} {
		noProgram(t, s)
	}
	newFails(t, times(" ", 8001), api.ErrTooMany, 8000)
	newFails(t, times("#", 8001), api.ErrTooMany, 8000)
	newFails(t, templates+times("\n", 8000), api.ErrTooMany, 8000)
	newFails(t, times("(rule not so", 100000), api.ErrTooMany, 8000)
}

// P22.1 (V1), P2: a text of tokens that are no program's is told by parse's error, and the place of the first token that is wrong, or the text's end.
func TestNewOfNoProgram(t *testing.T) {
	for _, s := range []string{
		"^)", "^a", "^?a", "^1", "^\"a\"", "^+", "(^", "(^)", "(^facts)", "(^query ())", "(^1)", "(^(",
		"(template^", "(template ^1)", "(template ^true)", "(template ^?a)", "(template a^", "(template a ^b)", "(template a (^))", "(template a (b ^))", "(template a (b ^set))", "(template a (b num ^text))", "(template a) ^)",
		"(rule^", "(rule ^1 0 () ())", "(rule r ^() ())", "(rule r ^x () ())", "(rule r ^1/2 () ())", "(rule r ^1001 () ())", "(rule r ^-1001 () ())", "(rule r 0 ^)", "(rule r 0 ()^", "(rule r 0 () ()^", "(rule r 0 () () ^())", "(rule r 0 (^p) ())", "(rule r 0 ((^)) ())",
		"(rule r 0 ((as ^f (p))) ())", "(rule r 0 ((not ^p)) ())", "(rule r 0 ((if ^+ 1 2)) ())", "(rule r 0 ((if < 1 2 ^3)) ())", "(rule r 0 ((let ?n ^?f ?x () ())) ())", "(rule r 0 ((let ?n count ?x (^x) ())) ())", "(rule r 0 ((p (a ^b))) ())", "(rule r 0 ((p (a 1 ^2))) ())",
		"(rule r 0 () ((^stop)))", "(rule r 0 () ((halt ^1)))", "(rule r 0 () ((print ^)))", "(rule r 0 () ((print (^< 1 2))))", "(rule r 0 () ((assert ^?f)))", "(rule r 0 () ((assert p ^1)))", "(rule r 0 () ((retract ^f)))", "(rule r 0 () ((modify ^1 (a 2))))", "(rule r 0 () ((modify ?f (a 2)^",
	} {
		noProgram(t, s)
	}
}

// noRight fails, unless a program may not be: with that error, and that place; beside others, that may be, at a place further behind.
func noRight(t *testing.T, text string, want api.Errno, place int) {
	t.Helper()
	newFails(t, text, want, place)
	p, _, err := parse.Parse(text)
	if err != api.OK {
		t.Fatalf("%s: no program", brief(text))
	}
	if _, err, at := engine.New(p); err != want || at != place {
		t.Fatalf("%s: engine tells %d, %d", brief(text), err, at)
	}
}

// P22.1 (V1): a program that may not be is told by engine's error, and the place of its template, or rule.
func TestNewOfNoRightProgram(t *testing.T) {
	for _, name := range []string{"not", "as", "if", "let"} {
		noRight(t, "(template "+name+")", api.ErrForm, 0)
		noRight(t, "(template a) (template b (c num)) (template "+name+")", api.ErrForm, 2)
		noRight(t, "(template "+name+") (rule r 0 ((nothere)) ())", api.ErrForm, 0)
	}
	noRight(t, "(template a) (template b) (template a)", api.ErrThere, 2)
	noRight(t, "(rule r 0 ((nothere)) ()) (template a (b num) (b num))", api.ErrForm, 0)
	noRight(t, "(template a"+times("(b num)", 9)+")", api.ErrForm, 0)
	many := ""
	for i := range 17 {
		many += fmt.Sprintf("(template a%d)", i)
	}
	noRight(t, many, api.ErrTooMany, 16)
	rules := ""
	for i := range 32 {
		rules += fmt.Sprintf("(rule r%d 0 () ())", i)
	}
	worldOf(t, rules)
	noRight(t, rules+"(rule r 0 ((nothere)) ())", api.ErrTooMany, 32)
	for s, want := range map[string]api.Errno{
		"z 0 ((nothere)) ()": api.ErrNone, "z 0 ((p (z 1))) ()": api.ErrArg, "z 0 ((p (a 'x))) ()": api.ErrType, "z 0 ((as ?f (p)) (as ?f (p))) ()": api.ErrThere, "z 0 (" + times("(e)", 13) + ") ()": api.ErrTooMany, "z 0 ((if < ?x 1)) ()": api.ErrNone, "z 0 ((if = 1 'a)) ()": api.ErrType, "z 0 ((let ?n few ?x () ((p (a ?x))))) ()": api.ErrNone,
		"z 0 () ((print ?x))": api.ErrNone, "z 0 () ((print (+ 1 'a)))": api.ErrType, "z 0 () ((assert nothere))": api.ErrNone, "z 0 () ((assert p (a 1)))": api.ErrArg, "z 0 () ((assert p (a 1) (b 'x)))": api.ErrType, "z 0 ((p (a ?x))) ((retract ?x))": api.ErrType, "z 0 ((as ?f (p))) ((modify ?f (s 'a)))": api.ErrArg, "z 0 () (" + times("(halt)", 13) + ")": api.ErrTooMany, "z 0 () ((print (+ 1 (+ 1 (+ 1 (+ 1 (+ 1 (+ 1 1))))))))": api.ErrForm, "r0 0 () ()": api.ErrThere,
	} {
		for at := 1; at < 4; at++ {
			l := strings.SplitAfter(templates+"(rule r0 0 () ())|(rule r1 0 ((p (a ?x))) ((print ?x)))|(rule r2 5 ((e)) ((halt)))|", "|")
			noRight(t, strings.ReplaceAll(strings.Join(l[:at], "")+"(rule "+s+")"+strings.Join(l[at:], ""), "|", " "), want, at)
		}
	}
}

// P22.1 (V1): of no text, of blanks and line feeds alone, of templates alone, and of rules alone there is a world of no facts, of which no line was done.
func TestNewOfFew(t *testing.T) {
	for _, s := range []string{"", " ", "\n", "\n\n\n", " \t\r\n \n", times(" ", 8000), times("\n", 8000)} {
		b := of(t, s)
		b.tells("( facts )", "end").tells("( agenda )", "end").tells("( run 0 )", "empty").tells("( run 9 )", "empty").tells("( query ( ) )", "", "end")
		b.fails(api.ErrNone, "( assert p )", "( assert p 1 )", "( retract 1 )", "( modify 1 )", "( query ( ( p ) ) )").fails(api.ErrForm, "", " ", "()")
	}
	for _, s := range []string{templates, "\n" + templates + "\n", "(template p (a num) (b num))(template e)"} {
		of(t, s).tells("( agenda )", "end").tells("( run 5 )", "empty").tells("( assert e )", "fact 1").tells("( assert p 1 2 )", "fact 2").tells("( run 5 )", "empty").tells("( facts )", "#1 e", "#2 p 1 2", "end").tells("( query ( ( p ( a ?x ) ) ) )", "x=1 #2 ", "end")
	}
	of(t, "(rule b 0 () ()) (rule a 0 () ((print 1)))").tells("( agenda )", "b ", "a ", "end").tells("( run 5 )", "fired b ", "fired a > 1 ", "empty").fails(api.ErrNone, "( assert p )")
}

// P22.1 (V1): a text has at most as many bytes as MaxSource, and may have as many rules as MaxRules.
func TestNewOfMuch(t *testing.T) {
	text := templates + "(rule r 0 ((p (a ?x))) ((print ?x)))"
	long := text + times(" ", 8000-len(text))
	of(t, long).does("( assert p 1 2 )").tells("( run 1 )", "fired r x=1 #1 > 1 ", "empty")
	newFails(t, long+" ", api.ErrTooMany, 8000)
	newFails(t, " "+long, api.ErrTooMany, 8000)
	newFails(t, long[:7999]+"(", api.ErrForm, 8000)
	newFails(t, long[:7999]+")", api.ErrForm, 7999)
	rules, todo, fired := "", []string(nil), []string(nil)
	for i := range 32 {
		rules += fmt.Sprintf("(rule r%d %d ((p (a ?x))) ((print (+ ?x %d))))", i, i, i)
		todo = append([]string{fmt.Sprintf("r%d x=1 #1 ", i)}, todo...)
		fired = append([]string{fmt.Sprintf("fired r%d x=1 #1 > %d ", i, i+1)}, fired...)
	}
	b := ofRules(t, rules).does("( assert p 1 2 )")
	b.tells("( agenda )", append(todo, "end")...).tells("( run 32 )", append(fired, "empty")...)
	// As long as may be, of text alone.
	full := "(rule r 0 () ("
	for i := range 12 {
		full += "(print \"" + times(string(rune('a'+i)), 100) + "\")"
	}
	full += "))"
	prints := "fired r "
	for i := range 12 {
		prints += "> \"" + times(string(rune('a'+i)), 100) + "\" "
	}
	of(t, full+times("\n", 8000-len(full))).tells("( run 3 )", prints, "empty")
}

// P22.1 (V1), T4 (text): a program's text, as it is shown, is that of the same world.
func TestNewOfShown(t *testing.T) {
	m, many := newMaker(1), 0
	for range 150 {
		text := m.program(t)
		p, _, _ := parse.Parse(text)
		b, shown := of(t, text), worldOf(t, show.Show(p))
		for range 15 {
			line := m.step(b)
			if got, want := shown.Do(line), b.do(line); got != want {
				t.Fatalf("%s, %s: got %s, want %s", brief(text), brief(line), brief(got), brief(want))
			}
			many++
		}
	}
	if many < 2000 {
		t.Errorf("just %d", many)
	}
}

// P22.1, T1 to T4: the document's ten examples of the whole.
func TestTenExamples(t *testing.T) {
	// 1. The number -6/4 is written -3/2.
	of(t, "(rule r 0 () ((print (/ -6 4))))").tells("( run 1 )", "fired r > -3/2 ", "empty")
	newFails(t, "(rule r 0 () ((print -6/4)))", api.ErrForm, 21)
	ofRules(t, "").fails(api.ErrForm, "( assert p -6/4 1 )").tells("( assert p -3/2 1 )", "fact 1").tells("( facts )", "#1 p -3/2 1", "end")
	// 2. A value 'red is a symbol; red is none.
	ofRules(t, "").tells("( assert q 1 'red )", "fact 1").fails(api.ErrForm, "( assert q 1 red )").tells("( query ( ( q ( s ?s ) ) ) )", "s='red #1 ", "end")
	newFails(t, "(rule r 0 () ((print red)))", api.ErrForm, 21)
	// 3. The average of 1 and 2 is 3/2; of nothing it is none.
	b := ofRules(t, "(rule r 0 ((let ?v avg ?x () ((p (a ?x))))) ((print ?v)))").tells("( run 9 )", "fired r v=none > none ", "empty").does("( assert p 1 0 )", "( assert p 2 0 )")
	b.tells("( run 9 )", "fired r v=3/2 > 3/2 ", "empty")
	// 4. A template named not is refused.
	newFails(t, "(template a) (template not)", api.ErrForm, 1)
	// 5. A test of a variable that is not known is refused: ErrNone.
	newFails(t, "(rule a 0 () ()) (rule r 0 ((if < ?x 1)) ())", api.ErrNone, 1)
	ofRules(t, "(rule r 0 ((p (a ?x))) ())").fails(api.ErrNone, "( query ( ( if < ?x 1 ) ) )")
	// 6. A rule of no conditions holds once, on no facts.
	of(t, "(rule r 0 () ())").tells("( agenda )", "r ", "end").tells("( query ( ) )", "", "end").tells("( run 9 )", "fired r ", "empty").tells("( agenda )", "end").tells("( run 9 )", "empty")
	// 7. A count without keys, of nothing, is 0.
	ofRules(t, "(rule r 0 ((let ?n count ?x () ((p (a ?x))))) ((print ?n)))").tells("( run 9 )", "fired r n=0 > 0 ", "empty").tells("( query ( ( let ?n count ?x ( ) ( ( p ( a ?x ) ) ) ) ) )", "n=0 ", "end").tells("( query ( ( let ?n count ?x ( ?x ) ( ( p ( a ?x ) ) ) ) ) )", "end")
	// 8. A fact that is modified has a new number.
	ofRules(t, "").tells("( assert e )", "fact 1").tells("( modify 1 )", "fact 2").tells("( facts )", "#2 e", "end").fails(api.ErrNone, "( modify 1 )", "( retract 1 )")
	// 9. Of two rules of one salience the one on later facts is done first.
	ofRules(t, "(rule r 0 ((q)) ()) (rule s 0 ((p)) ())").does("( assert q 1 'a )", "( assert p 1 2 )").tells("( agenda )", "s #2 ", "r #1 ", "end").tells("( run 9 )", "fired s #2 ", "fired r #1 ", "empty")
	// 10. A print of (/ 1 0) is wrong: the rest of the rule's actions is not done.
	ofRules(t, "(rule r 0 () ((print 1) (print (/ 1 0)) (print 2) (assert e)))").tells("( run 9 )", "fired r > 1 error 21 ", "empty").tells("( facts )", "end")
}
