package world_test

import (
	"fmt"
	"strings"
	"testing"

	"tribunal/api"
)

// P22.1 (V2), P2: lines that have no tokens: none at all, and lex's errors, each of which is error 12, wherever it stands.
func TestNoTokens(t *testing.T) {
	b := ofRules(t, broad).does("( assert p 1 2 )", "( assert e )")
	b.fails(api.ErrForm, "", " ", "\t", "\r", "\n", " \t\r\n ", times(" ", 8000), times(" ", 8001), times("\n", 100000))
	for _, s := range []string{"#", "#1", "_", "A", "{1}", "&", "!", "?", "?X", "'", "'A", "\"open", "\"", "\x00", "\v", "\f", "\xa0", "\u00a0", "\xff", "é", "\u200b", "[", ".", ",", ";", "01", "00", "-0", "-01", "6/4", "1/1", "1/0", "1/01", "0/1", "1a", "1/2a", "\"a\nb\"", "\"\t\"", "\"é\"", nines(301), "-" + nines(300), times("a", 25), "'" + times("a", 25), "?" + times("a", 25), "\"" + times("a", 101) + "\""} {
		b.fails(api.ErrForm, s, "( "+s+" )", "( facts "+s+" )", "( facts ) "+s, s+"( facts )", "( assert "+s+" )", "( assert p "+s+" 1 )", "( assert p 1 2 "+s+" )", "( retract "+s+" )", "( modify 1 ( a "+s+" ) )", "( run "+s+" )", "( query ( ( p ( a "+s+" ) ) ) )")
	}
	for _, line := range []string{"( facts )", "( agenda )", "( assert e )", "( query ( ) )"} {
		room := times(" ", 8000-len(line))
		b.fails(api.ErrForm, line+room+" ", " "+line+room, line+times("\n", 8000), times(" ", 8000)+line)
	}
	b.tells("( retract 1 )"+times(" ", 8000-13), "ok").tells(times("\t", 8000-13)+"( retract 2 )", "ok").tells("( assert"+times("\r", 8000-11)+"e )", "fact 3")
}

// P22.1 (V2): blanks between tokens, of whatever kinds, as many as may be, and none where none is needed, make no other line; nor do those at both ends.
func TestBlanks(t *testing.T) {
	m := newMaker(2)
	begin := func() *both { return ofRules(t, broad).does("( assert p 1 2 )", "( assert w 1 \"t\" 'a true )") }
	for _, line := range rightLines() {
		want := begin().do(line)
		l := []string{" " + line, line + "\n", "\n\n" + line + " \r", times("\t", 1000) + line}
		// In a text blanks are not between tokens.
		if !strings.Contains(line, "\"") {
			l = append(l, strings.ReplaceAll(line, " )", "\t)"), strings.ReplaceAll(line, "( ", "(\n"), strings.ReplaceAll(line, " )", ")"), strings.NewReplacer(" )", ")", "( ", "(", " (", "(").Replace(line), strings.ReplaceAll(line, " ", "\r\n \t"))
		}
		for range 5 {
			l = append(l, m.spread(line))
		}
		for _, other := range l {
			if got := begin().do(other); got != want {
				t.Errorf("%s: got %s, want %s", brief(other), brief(got), brief(want))
			}
		}
	}
}

// P22.1 (V2), P2: lines without their brackets, with one of them, with one too many, or of another sign, and two lines in one.
func TestBrackets(t *testing.T) {
	b := ofRules(t, broad).does("( assert p 1 2 )", "( assert e )")
	for _, line := range rightLines() {
		inside := strings.TrimSuffix(strings.TrimPrefix(line, "("), ")")
		b.fails(api.ErrForm, inside, "("+inside, inside+")", "("+line, line+")", "("+line+")", line+"(", ")"+line, line+" ( )", "( ) "+line, "( "+line, ")"+inside+"(", "<"+inside+">", "\"(\""+inside+"\")\"", "'a"+inside+")", "("+inside+"'a")
		for _, other := range rightLines() {
			b.fails(api.ErrForm, line+other, line+" "+other, line+"\n"+other)
		}
	}
	b.fails(api.ErrForm, "(", ")", "()", "( )", ")(", "(())", "((", "))", "( ( ) )", "+", "( + )", "(\n)")
}

// P22.1 (V2), P2: lines whose first name is none of these: another's beginning, one with more behind it, in other letters, a variable, a value, or a sign; what stands behind it may be any line's.
func TestFirstNames(t *testing.T) {
	b := ofRules(t, broad).does("( assert p 1 2 )", "( assert e )")
	b.fails(api.ErrForm, "( nothing )")
	for _, line := range rightLines() {
		first, behind, _ := strings.Cut(strings.TrimPrefix(line, "( "), " ")
		for _, other := range []string{"nothing", "a", first[:1], first[:len(first)-1], first[1:], first + "s", first + "0", first + first, first + " " + first, "?" + first, "'" + first, "\"" + first + "\"", strings.ToUpper(first), strings.ToUpper(first[:1]) + first[1:], "true", "false", "none", "1", "-1", "+", "-", "(", ")", "*", "<=", "", "template", "rule", "as", "not", "if", "let", "print", "halt", "end", "fact", "ok", "error", "fired", "empty", "fuel", "do", "script", "new", "done", "set", "held", "p", "r0", "( " + first + " )", "\x00" + first, first + "\x00"} {
			b.fails(api.ErrForm, "( "+other+" "+behind)
		}
	}
	// What one line has behind its name is wrong behind most others.
	for _, line := range rightLines() {
		_, behind, _ := strings.Cut(strings.TrimPrefix(line, "( "), " ")
		for _, first := range []string{"assert", "retract", "modify", "run", "query", "facts", "agenda"} {
			b.do("( " + first + " " + behind)
		}
	}
}

// P22.1 (V2), P2: one token too few, at each place, is error 12 (but for one of the values to assert); so is one too many, or another one, where that is no right line, as another one tells it.
func TestTokenByToken(t *testing.T) {
	tokens := []string{"a", "p", "e", "?x", "1", "0", "-1", "3/2", "1000000000", "'a", "\"a\"", "\"1\"", "true", "none", "(", ")", "+", "-", "<", "!=", "facts", "run", "assert"}
	few, many, wrong := 0, 0, 0
	for _, line := range rightLines() {
		l := pieces(t, line)
		for at := range l {
			less := strings.Join(l[:at], " ") + " " + strings.Join(l[at+1:], " ")
			b := ofRules(t, broad).does("( assert p 1 2 )", "( assert e )")
			if got := b.do(less); got != wrongLine(api.ErrForm) && (l[1] != "assert" || at < 3 || got != wrongLine(api.ErrArg)) {
				t.Errorf("%s: got %s", brief(less), brief(got))
			}
			few++
		}
		for at := range len(l) + 1 {
			for _, token := range tokens {
				ahead, behind := strings.Join(l[:at], " ")+" "+token+" ", strings.Join(l[at:], " ")
				b := ofRules(t, broad).does("( assert p 1 2 )", "( assert e )")
				got := b.do(ahead + behind)
				if (at == 0 || at == 1 && token != "assert") && got != wrongLine(api.ErrForm) {
					t.Errorf("%s: got %s", brief(ahead+behind), brief(got))
				}
				if at < len(l) {
					b.do(ahead + strings.Join(l[at+1:], " "))
				}
				many++
				if got == wrongLine(api.ErrForm) {
					wrong++
				}
			}
		}
	}
	if few < 100 || many < 2500 || wrong < 2200 || wrong > many-100 {
		t.Errorf("just %d, %d of %d", few, wrong, many)
	}
}

// P22.1 (V2): assert tells the number of the fact that has come, of templates with slots and without, and of values of each kind that a slot may have.
func TestAssert(t *testing.T) {
	b := ofRules(t, "").tells("( assert e )", "fact 1").tells("( assert p 1 2 )", "fact 2").tells("( assert e )", "fact 3").tells("( assert e )", "fact 4")
	b.tells(`( assert w 0 "" 'a false )`, "fact 5").tells(`( assert w -3/2 "a ) ( b" 'none true )`, "fact 6").tells(`( assert w `+nines(300)+` "`+times("~", 100)+`" '`+times("z", 24)+` true )`, "fact 7").tells(`(assert w 1"x"'assert false)`, "fact 8")
	b.tells("( facts )", "#1 e", "#2 p 1 2", "#3 e", "#4 e", `#5 w 0 "" 'a false`, `#6 w -3/2 "a ) ( b" 'none true`, `#7 w `+nines(300)+` "`+times("~", 100)+`" '`+times("z", 24)+` true`, `#8 w 1 "x" 'assert false`, "end")
}

// P22.1 (V2), P2: assert by each of facts' errors: there is no such template, not as many values as slots, a value of another kind; and of what is no VALUE.
func TestWrongAsserts(t *testing.T) {
	b := ofRules(t, broad).does("( assert p 1 2 )")
	b.fails(api.ErrNone, "( assert nothere )", "( assert nothere 1 2 )", "( assert pp 1 2 )", "( assert r0 1 2 )", "( assert as )", "( assert not 1 )", "( assert if )", "( assert let none )", "( assert assert )", "( assert facts )", "( assert "+times("a", 24)+" 1 )")
	b.fails(api.ErrArg, "( assert p )", "( assert p 1 )", "( assert p 1 2 3 )", "( assert p 'a )", "( assert e 1 )", "( assert e none )", "( assert q 1 )", "( assert q none none none )", "( assert w 1 \"\" 'a )", "( assert p"+times(" 1", 3000)+" )")
	b.fails(api.ErrType, "( assert p 'a 1 )", "( assert p 1 'a )", "( assert p \"1\" 2 )", "( assert p 1 none )", "( assert p true 1 )", "( assert q 1 1 )", "( assert q 'a 1 )", "( assert q 1 \"a\" )", "( assert q 1 none )", "( assert w 1 'a \"\" true )", "( assert w 1 \"\" 'a 'true )", "( assert w 1 \"\" 'a \"true\" )", "( assert w none none none none )")
	for _, s := range []string{"a", "true1", "?x", "?a", "+", "-", "<=", "(", ")", "( )", "( a 1 )", "(1)", "( + 1 2 )"} {
		b.fails(api.ErrForm, "( assert p "+s+" 2 )", "( assert p 1 "+s+" )", "( assert p 1 2 "+s+" )", "( assert e "+s+" )", "( assert nothere "+s+" )", "( assert p "+s+" )", "( assert p 'a "+s+" )")
	}
	for _, s := range []string{"?p", "1", "'p", "\"p\"", "true", "none", "+", "(", ")", "( p )"} {
		b.fails(api.ErrForm, "( assert "+s+" )", "( assert "+s+" 1 2 )")
	}
	b.fails(api.ErrForm, "( assert )", "(assert)").tells("( assert e )", "fact 2")
}

// P22.1 (V2), P2: one fact more than there may be is error 2; a wrong line, and a wrong fact, is told as that; a modified fact is not one more.
func TestOneFactTooMany(t *testing.T) {
	b := ofRules(t, "")
	for i := range 300 {
		b.tells("( assert e )", fmt.Sprint("fact ", i+1))
	}
	b.fails(api.ErrTooMany, "( assert e )", "( assert p 1 2 )").fails(api.ErrArg, "( assert e 1 )").fails(api.ErrNone, "( assert nothere )").fails(api.ErrForm, "( assert e e )")
	b.tells("( modify 300 )", "fact 301").fails(api.ErrTooMany, "( assert e )").tells("( retract 7 )", "ok").tells("( assert e )", "fact 302").fails(api.ErrTooMany, "( assert e )")
}

// noNumbers is what is no NUMBER, and no fact's number.
func noNumbers() []string {
	return []string{"1000000000", "9999999999", "1" + times("0", 99), nines(300), "-1", "-999999999", "1/2", "-1/2", "3/2", "\"1\"", "\"\"", "'a", "'x1", "true", "false", "none", "a", "x1", "?x", "+", "-", "*", "(", ")", "( 1 )", "( )", "1 1", "01", "00", "-0", "1a", "1.0", "1e1", "+1", "#1", "1/1"}
}

// P22.1 (V2), P2: numbers of 1, 9 and 10 digits, with a nought ahead, below 0, fractions, 0, and what is none; and numbers of facts that there are none of.
func TestNumbers(t *testing.T) {
	b := ofRules(t, broad).does("( assert p 1 2 )", "( assert e )", "( retract 2 )", "( modify 1 )")
	for _, s := range noNumbers() {
		b.fails(api.ErrForm, "( retract "+s+" )", "( modify "+s+" )", "( modify "+s+" ( a 1 ) )", "( modify "+s+" ( z none ) )", "( run "+s+" )")
	}
	b.fails(api.ErrForm, "( retract )", "( modify )", "( run )", "( modify ( a 1 ) )", "( retract 3 3 )", "( run 0 0 )", "( retract 3 ( a 1 ) )", "( run 1 ( ) )")
	for _, s := range []string{"0", "1", "2", "4", "5", "9", "10", "99999999", "100000000", "999999998", "999999999"} {
		b.fails(api.ErrNone, "( retract "+s+" )", "( modify "+s+" )", "( modify "+s+" ( a 1 ) )", "( modify "+s+" ( z none ) ( z none ) )")
	}
	b.tells("( modify 3 )", "fact 4").tells("( retract 4 )", "ok").fails(api.ErrNone, "( retract 4 )", "( modify 4 )").tells("( facts )", "end")
	for range 8 {
		b.does("( assert e )")
	}
	b.tells("( retract 12 )", "ok").tells("( modify 10 )", "fact 13").tells("( assert e )", "fact 14")
	// As much fuel as a line may have; it halts, or nothing is left.
	of(t, "(rule r 0 () ((halt))) (rule s -1 () ())").tells("( run 999999999 )", "fired r ", "halt").tells("( run 999999999 )", "fired s ", "empty").tells("( run 100000000 )", "empty").tells("( run 9 )", "empty").tells("( run 0 )", "empty")
}

// P22.1 (V2): modify of no slots, of one, of more, in any order: another fact, of the next number; the others' values stay.
func TestModify(t *testing.T) {
	b := ofRules(t, "").does("( assert p 1 2 )", "( assert w 1 \"x\" 'a true )", "( assert e )")
	b.tells("( modify 1 )", "fact 4").tells("( modify 3 )", "fact 5").tells("( modify 2 )", "fact 6").tells("( facts )", "#4 p 1 2", "#5 e", "#6 w 1 \"x\" 'a true", "end")
	b.tells("( modify 4 ( a 5 ) )", "fact 7").tells("( modify 7 ( b -1/2 ) )", "fact 8").tells("( facts )", "#5 e", "#6 w 1 \"x\" 'a true", "#8 p 5 -1/2", "end")
	b.tells("( modify 8 ( b 3 ) ( a 4 ) )", "fact 9").tells("(modify 9(a 9)(b 8))", "fact 10").tells("( modify 6 ( b false ) ( t \"( b 1 )\" ) ( s 'none ) ( n 0 ) )", "fact 11").tells("( modify 11 ( t \"\" ) )", "fact 12")
	b.tells("( facts )", "#5 e", "#10 p 9 8", "#12 w 0 \"\" 'none false", "end")
}

// P22.1 (V2), P2: modify of one slot twice, of one that there is none of, of a value of another kind, and of what is no ( NAME VALUE ).
func TestWrongModifies(t *testing.T) {
	b := ofRules(t, broad).does("( assert p 1 2 )", "( assert w 1 \"x\" 'a true )", "( assert e )", "( assert q 1 'a )")
	b.fails(api.ErrArg, "( modify 1 ( a 1 ) ( a 1 ) )", "( modify 1 ( a 1 ) ( b 1 ) ( a 2 ) )", "( modify 1 ( s 1 ) )", "( modify 1 ( a 1 ) ( z none ) )", "( modify 3 ( a 1 ) )", "( modify 3 ( e none ) )", "( modify 4 ( b 1 ) )", "( modify 1 ( p 1 ) )", "( modify 1 ( a 'a ) ( a 'a ) )", "( modify 2 ( modify 1 ) )", "( modify 1"+times(" ( a 1 )", 900)+" )")
	b.fails(api.ErrType, "( modify 1 ( a 'a ) )", "( modify 1 ( a none ) )", "( modify 1 ( a 1 ) ( b \"1\" ) )", "( modify 1 ( b true ) ( a 1 ) )", "( modify 2 ( t 'x ) )", "( modify 2 ( s \"x\" ) )", "( modify 2 ( b 'true ) )", "( modify 2 ( n \"1\" ) )", "( modify 4 ( s 1 ) )")
	for _, s := range []string{"a", "a 1", "( a )", "( )", "( a 1 2 )", "( a 1 1 )", "( a 1", "a 1 )", "( 1 )", "( 1 a )", "( ?a 1 )", "( 'a 1 )", "( \"a\" 1 )", "( true 1 )", "( none 1 )", "( + 1 )", "( a b )", "( a ?x )", "( a + )", "( a ( 1 ) )", "( a ( + 1 2 ) )", "( ( a 1 ) )", "( a 1 ( b 2 ) )", "( a a 1 )", "1", "2", "'a", "?x", "+", "(", ")", "< a 1 >", "( a 1 ) )", "( ( a 1 )", "\"(\" a 1 )", "( a 1 \")\""} {
		for _, id := range []string{"1", "0", "77"} {
			b.fails(api.ErrForm, "( modify "+id+" "+s+" )", "( modify "+id+" ( a 1 ) "+s+" )", "( modify "+id+" ( z 1 ) "+s+" )", "( modify "+id+" "+s+" ( b 2 ) )")
		}
	}
	b.tells("( modify 1 )", "fact 5").tells("( modify 5 ( a 7 ) )", "fact 6")
}

// P22.1 (V2): facts tells none, one, more, by their numbers: of templates without slots, and of values of each kind; then the end, alone, if there are none.
func TestFacts(t *testing.T) {
	b := ofRules(t, "(rule make -5 ((e)) ((assert w (b false) (s 'x) (t \"made here\") (n (/ -6 4)))))").tells("( facts )", "end")
	b.does("( assert p 1 2 )").tells("( facts )", "#1 p 1 2", "end").does("( assert e )").tells("(facts)", "#1 p 1 2", "#2 e", "end")
	b.tells("( run 1 )", "fired make #2 ", "empty").tells("( facts )", "#1 p 1 2", "#2 e", "#3 w -3/2 \"made here\" 'x false", "end").tells("( facts )", "#1 p 1 2", "#2 e", "#3 w -3/2 \"made here\" 'x false", "end")
	for i := range 8 {
		b.tells("( assert p 0 0 )", fmt.Sprint("fact ", i+4))
	}
	b.does("( retract 4 )", "( retract 5 )", "( retract 6 )", "( retract 7 )", "( retract 1 )", "( modify 8 ( a 3 ) )").tells("( facts )", "#2 e", "#3 w -3/2 \"made here\" 'x false", "#9 p 0 0", "#10 p 0 0", "#11 p 0 0", "#12 p 3 0", "end")
	b.fails(api.ErrForm, "( facts 1 )", "( facts e )", "( facts facts )", "( facts ( ) )", "facts", "( fact )", "( facts", "facts )")
	for _, id := range []int{2, 3, 9, 10, 11, 12} {
		b.tells(fmt.Sprintf("( retract %d )", id), "ok")
	}
	b.tells("( facts )", "end")
	if l := b.w.Facts(); len(l) != 0 {
		t.Errorf("got %s", brief(l))
	}
}

// P22.1 (V2): agenda tells what is to be done, in order: nothing, the end alone; one, more; behind a run that stopped for its fuel, and behind one that was done.
func TestAgenda(t *testing.T) {
	ofRules(t, "(rule r 0 ((p)) ())").tells("( agenda )", "end")
	b := ofRules(t, "(rule low -1 ((p (a ?x) (b ?y))) ()) (rule bare 0 () ()) (rule as 0 ((as ?f (q (s ?s)))) ()) (rule high 5 ((p (a ?x)) (not (e))) ())")
	b.tells("( agenda )", "bare ", "end").does("( assert p 1 1/2 )").tells("( agenda )", "high x=1 #1 ", "bare ", "low x=1 y=1/2 #1 ", "end")
	b.does("( assert q 3 'red )", "( assert p 2 0 )").tells("(agenda)", "high x=2 #3 ", "high x=1 #1 ", "as f=#2 s='red #2 ", "bare ", "low x=2 y=0 #3 ", "low x=1 y=1/2 #1 ", "end")
	b.tells("( run 3 )", "fired high x=2 #3 ", "fired high x=1 #1 ", "fired as f=#2 s='red #2 ", "fuel").tells("( agenda )", "bare ", "low x=2 y=0 #3 ", "low x=1 y=1/2 #1 ", "end")
	b.does("( modify 1 ( a 5 ) )").tells("( agenda )", "high x=5 #4 ", "bare ", "low x=5 y=1/2 #4 ", "low x=2 y=0 #3 ", "end").does("( assert e )", "( retract 3 )").tells("( agenda )", "bare ", "low x=5 y=1/2 #4 ", "end")
	b.tells("( run 9 )", "fired bare ", "fired low x=5 y=1/2 #4 ", "empty").tells("( agenda )", "end").does("( retract 5 )").tells("( agenda )", "high x=5 #4 ", "end")
	b.fails(api.ErrForm, "( agenda 1 )", "( agenda bare )", "( agenda ( ) )", "agenda", "( agendas )", "( agenda", "agenda )")
}

// P22.1 (V2): retract tells that it is done, once.
func TestRetract(t *testing.T) {
	b := ofRules(t, broad).does("( assert p 1 2 )", "( assert e )", "( assert e )")
	b.tells("( retract 2 )", "ok").fails(api.ErrNone, "( retract 2 )").tells("(retract 1)", "ok").tells("( retract 3 )", "ok").tells("( facts )", "end").tells("( assert e )", "fact 4")
	b.fails(api.ErrForm, "( retract )", "( retract 4 4 )", "( retract ( 4 ) )", "( retract e )", "( retract 4", "retract 4 )", "( retract #4 )", "( retract ?f )").tells("( retract 4 )", "ok")
}
