package world_test

import (
	"fmt"
	"strings"
	"testing"

	"tribunal/api"
	"tribunal/engine"
	"tribunal/parse"
)

// P22.1 (V2): query of no conditions, of each kind, of two, and of some in others: a line of each tuple, in order, then the end.
func TestQuery(t *testing.T) {
	b := ofRules(t, "")
	b.tells("( query ( ) )", "", "end").tells("( query ( ( p ) ) )", "end").tells("( query ( ( not ( p ) ) ) )", "", "end").tells("( query ( ( if < 2 1 ) ) )", "end").tells("( query ( ( let ?m min ?x ( ) ( ( p ( a ?x ) ) ) ) ) )", "m=none ", "end")
	b.does("( assert p 1 2 )", "( assert q 1 'a )", "( assert p 2 2 )", "( assert e )", "( assert p 10 9 )", `( assert w 9 "x=1 #1 " 'b true )`)
	b.tells("(query ())", "", "end").tells("(query ((e)))", "#4 ", "end").tells("(query ((p)))", "#1 ", "#3 ", "#5 ", "end").tells("(query ((p (a ?x))))", "x=1 #1 ", "x=2 #3 ", "x=10 #5 ", "end").tells("(query ((p (a 10))))", "#5 ", "end").tells("(query ((p (a 3))))", "end")
	b.tells("(query ((as ?x (p (b 2)))))", "x=#1 #1 ", "x=#3 #3 ", "end").tells("(query ((w (n ?n) (t ?t) (s ?s) (b ?b))))", `b=true n=9 s='b t="x=1 #1 " #6 `, "end").tells("(query ((q (s 'a)) (q (s ?s))))", "s='a #2 #2 ", "end")
	b.tells("(query ((not (p (a 3)))))", "", "end").tells("(query ((not (e))))", "end").tells("(query ((if < 1 2)))", "", "end").tells("(query ((if = 'a 'b)))", "end").tells("(query ((if != \"a\" \"b\")))", "", "end").tells("(query ((if <= (* 2 (+ 1 1)) 4)))", "", "end")
	b.tells("(query ((let ?n count ?x () ((p (a ?x))))))", "n=3 ", "end").tells("(query ((let ?n sum ?x (?y) ((p (a ?x) (b ?y))))))", "n=3 y=2 ", "n=10 y=9 ", "end").tells("(query ((let ?l set ?f () ((as ?f (p))))))", "l={#1, #3, #5} ", "end").tells("(query ((let ?v avg ?x () ((p (a ?x))))))", "v=13/3 ", "end")
	b.tells("(query ((p (a ?x)) (not (q (a ?x)))))", "x=2 #3 ", "x=10 #5 ", "end").tells("(query ((q (a ?x)) (p (a ?x))))", "x=1 #2 #1 ", "end").tells("(query ((p (a ?x)) (if > ?x 1)))", "x=2 #3 ", "x=10 #5 ", "end").tells("(query ((e) (e)))", "#4 #4 ", "end")
	b.tells("(query ((let ?m max ?n () ((let ?n count ?x (?y) ((p (a ?x) (b ?y)))))) (p (a ?m))))", "m=2 #3 ", "end").tells("(query ((let ?k sum ?m () ((let ?m max ?n () ((let ?n count ?x () ((p (a ?x)) (if < ?x 9)))))))))", "k=2 ", "end").tells("(query ((as ?f (p (a ?x))) (let ?n count ?g (?x) ((as ?g (q (a ?x)))))))", "f=#1 n=1 x=1 #1 ", "end")
	b.does("( retract 1 )", "( modify 3 ( a 1 ) )").tells("(query ((q (a ?x)) (p (a ?x))))", "x=1 #2 #7 ", "end").tells("(query ((p (a ?x))))", "x=10 #5 ", "x=1 #7 ", "end")
}

// P22.1 (V2): variables and names that the program's rules have, too, are others in a query; what is to be done has nothing to do with it.
func TestQueryKnowsNoRules(t *testing.T) {
	b := ofRules(t, "(rule q 5 ((as ?f (p (a ?x) (b ?y))) (if < ?x 3) (let ?n count ?z () ((p (a ?z))))) ((modify ?f (a (+ ?x ?n))))) (rule r 0 ((q (s ?x))) ((print ?x)))").does("( assert p 1 2 )", "( assert q 1 'a )")
	for range 2 {
		b.tells("( query ( ( q ( s ?x ) ) ) )", "x='a #2 ", "end").tells("( query ( ( as ?x ( p ( b ?f ) ) ) ) )", "f=2 x=#1 #1 ", "end").tells("( query ( ( let ?f set ?x ( ?n ) ( ( q ( a ?n ) ( s ?x ) ) ) ) ) )", "f={'a} n=1 ", "end").tells("( agenda )", "q f=#1 n=1 x=1 y=2 #1 ", "r x='a #2 ", "end")
	}
	b.fails(api.ErrNone, "( query ( ( if < ?x 3 ) ) )", "( query ( ( if = ?f ?f ) ) )", "( query ( ( r ) ) )")
	b.tells("( run 9 )", "fired q f=#1 n=1 x=1 y=2 #1 ", "fired q f=#3 n=1 x=2 y=2 #3 ", "fired r x='a #2 > 'a ", "empty").tells("( query ( ( as ?x ( p ( a ?f ) ) ) ) )", "f=3 x=#4 #4 ", "end")
}

// wrongConds is conditions in brackets that are none, by each of parse's errors.
func wrongConds() []string {
	return []string{
		"", "(", ")", "( ) )", "( ( )", "p", "?x", "1", "'a", "+", "( p )", "( ?x )", "( 1 )", "( + )", "( ( ) )", "( ( ( ) ) )", "( ( ( p ) ) )", "( p ( p ) )", "( ( p ) p )", "( ( p ) ) p", "( ( p ) ) 1", "p ( ( p ) )", "( ( ?x ) )", "( ( 1 ) )", "( ( true ) )", "( ( none ) )", "( ( 'p ) )", "( ( \"p\" ) )", "( ( + ) )",
		"( ( p a 1 ) )", "( ( p a ) )", "( ( p ( a ) ) )", "( ( p ( ) ) )", "( ( p ( a 1 2 ) ) )", "( ( p ( a b ) ) )", "( ( p ( a + ) ) )", "( ( p ( a ( + 1 2 ) ) ) )", "( ( p ( ?a 1 ) ) )", "( ( p ( 1 1 ) ) )", "( ( p ( a 1 ) b ) )", "( ( p ?x ) )", "( ( p 1 ) )",
		"( ( as ) )", "( ( as ?f ) )", "( ( as f ( p ) ) )", "( ( as 1 ( p ) ) )", "( ( as ( p ) ) )", "( ( as ?f p ) )", "( ( as ?f ( p ) 1 ) )", "( ( as ?f ( p ) ( p ) ) )", "( ( as ?f ( not ( p ) ) ) )", "( ( as ?f ?g ( p ) ) )",
		"( ( not ) )", "( ( not p ) )", "( ( not ?f ) )", "( ( not ( p ) ( p ) ) )", "( ( not ( ) ) )", "( ( not ( as ?f ( p ) ) ) )", "( ( not ( not ( p ) ) ) )",
		"( ( if ) )", "( ( if < ) )", "( ( if < 1 ) )", "( ( if 1 < 2 ) )", "( ( if < 1 2 3 ) )", "( ( if + 1 2 ) )", "( ( if ( < 1 2 ) ) )", "( ( if < a 2 ) )", "( ( if < 1 ( < 1 2 ) ) )", "( ( if < ( + 1 ) 2 ) )", "( ( if < ( + 1 2 3 ) 2 ) )", "( ( if < ( ) 2 ) )", "( ( if < ( 1 ) 2 ) )", "( ( if ?x 1 2 ) )", "( ( if = 1 2", "( ( if is 1 2 ) )",
		"( ( let ) )", "( ( let ?n ) )", "( ( let ?n count ) )", "( ( let ?n count ?x ) )", "( ( let ?n count ?x ( ) ) )", "( ( let ?n count ?x ( ) ( ( p ) ) 1 ) )", "( ( let n count ?x ( ) ( ) ) )", "( ( let ?n ?c ?x ( ) ( ) ) )", "( ( let ?n 'count ?x ( ) ( ) ) )", "( ( let ?n count x ( ) ( ) ) )", "( ( let ?n count ?x ?y ( ) ) )", "( ( let ?n count ?x ( y ) ( ) ) )", "( ( let ?n count ?x ( ?y 1 ) ( ) ) )", "( ( let ?n count ?x ( ) ( p ) ) )", "( ( let ?n count ?x ( ) p ) )", "( ( let ?n count ?x ( ) ( ) ( ) ) )", "( ( let ?n count ?x ( ) ( ( if ) ) ) )",
		"( ( print 1 ) )", "( ( assert e ) )", "( ( halt 1 ) )", "( ( retract ?f ) )", "( ( e ) ( ) )", "( ) ( )", "( ) ( ) ( )", "( ( e ) ) ( ( halt ) )", "( ( e ) ) ( )", "( facts )", "( query ( ) )",
	}
}

// P22.1 (V2), P2: query of conditions that are none, by each of parse's errors, is error 12, also where check would have another one.
func TestQueryOfNoConditions(t *testing.T) {
	b := ofRules(t, broad).does("( assert p 1 2 )", "( assert e )")
	for _, s := range wrongConds() {
		b.fails(api.ErrForm, "( query "+s+" )")
		if inside, is := strings.CutPrefix(s, "( ("); is {
			b.fails(api.ErrForm, "( query ( ( nothere ( z 1 ) ) ("+inside+" )", "( query ( ( if < ?x 1 ) ("+inside+" )", "( query ( "+times("( e ) ", 13)+"("+inside+" )")
		}
	}
	b.fails(api.ErrForm, "( query )", "query ( )", "( query ( )", "( query ( ) ) )", "( query ( ) ( ) )", "( query q 0 ( ) )", "( query 0 ( ) )", "( query ( ) 1 )", "( query 1 ( ) )")
}

// P22.1 (V2), P2: tokens that would end the rule they are read in, and begin something else that a program may have, are error 12.
func TestQueryEndsNoRule(t *testing.T) {
	b := ofRules(t, broad).does("( assert p 1 2 )", "( assert e )")
	for _, first := range []string{"( )", "( ( p ) )", "( ( nothere ) )"} {
		for _, acts := range []string{"( )", "( ( halt ) )"} {
			for _, between := range []string{"", "( template z ) ", "( template z ( a num ) ) ", "( rule z 0 ( ) ( ) ) ", "( rule q 0 ( ( p ) ) ( ( print 1 ) ) ) "} {
				for _, last := range []string{"( )", "( ( p ) )", "( ( p ( a ?x ) ) ( if < ?x 2 ) )"} {
					for _, rule := range []string{"rule q 0 ", "rule r 0 ", "rule r0 1000 ", "rule "} {
						s := first + " " + acts + " ) " + between + "( " + rule + last
						if _, _, err := parse.Parse("( rule q 0 " + s + " ( ) )"); (err == api.OK) != (rule != "rule ") {
							t.Fatalf("%s: error %d", s, err)
						}
						b.fails(api.ErrForm, "( query "+s+" )")
					}
				}
				b.fails(api.ErrForm, "( query "+first+" "+acts+" ) "+between+"( template z )", "( query "+first+" "+acts+" ) "+between+")", "( query "+first+" "+acts+" ) "+between+"( template z ( b num ) )")
			}
		}
	}
}

// badConds is conditions that may not be, and check's error.
func badConds() map[string]api.Errno {
	within := "( p ( a ?x ) )"
	for range 6 {
		within = "( let ?x max ?x ( ) ( " + within + " ) )"
	}
	return map[string]api.Errno{
		times("( e ) ", 13): api.ErrTooMany, within: api.ErrTooMany, "( let ?n count ?x ( ) ( " + times("( p ( a ?x ) ) ", 13) + " ) )": api.ErrTooMany,
		"( nothere )": api.ErrNone, "( not ( nothere ) )": api.ErrNone, "( as ?f ( not ) )": api.ErrNone, "( not ( if ) )": api.ErrNone, "( if < ?x 2 )": api.ErrNone, "( if < 2 ( + 1 ?x ) )": api.ErrNone, "( let ?n few ?x ( ) ( ( p ( a ?x ) ) ) )": api.ErrNone, "( let ?n count ?x ( ) ( ) )": api.ErrNone, "( let ?n count ?x ( ?y ) ( ( p ( a ?x ) ) ) )": api.ErrNone, "( not ( p ( a ?x ) ) ) ( if = ?x 1 )": api.ErrNone, "( let ?n count ?x ( ) ( ( p ( a ?x ) ) ) ) ( if = ?x 1 )": api.ErrNone, "( r0 )": api.ErrNone,
		"( p ( z 1 ) )": api.ErrArg, "( p ( a 1 ) ( a 1 ) )": api.ErrArg, "( e ( a 1 ) )": api.ErrArg, "( not ( p ( s ?x ) ) )": api.ErrArg,
		"( p ( a 'x ) )": api.ErrType, "( p ( a none ) )": api.ErrType, "( p ( a ?x ) ) ( q ( s ?x ) )": api.ErrType, "( as ?f ( p ) ) ( p ( a ?f ) )": api.ErrType, "( if = 1 'a )": api.ErrType, "( if < 'a 'b )": api.ErrType, "( if < ( + 1 'a ) 2 )": api.ErrType, "( let ?n sum ?s ( ) ( ( q ( s ?s ) ) ) )": api.ErrType, "( q ( s ?y ) ) ( let ?n count ?x ( ?y ) ( ( p ( a ?x ) ( b ?y ) ) ) )": api.ErrType,
		"( as ?f ( p ) ) ( as ?f ( p ) )": api.ErrThere, "( p ( a ?f ) ) ( as ?f ( p ) )": api.ErrThere, "( let ?n count ?x ( ?x ?x ) ( ( p ( a ?x ) ) ) )": api.ErrThere, "( let ?x count ?x ( ?x ) ( ( p ( a ?x ) ) ) )": api.ErrThere, "( p ( a ?n ) ) ( let ?n count ?x ( ) ( ( p ( a ?x ) ) ) )": api.ErrThere,
		"( if < ( + 1 ( + 1 ( + 1 ( + 1 ( + 1 ( + 1 1 ) ) ) ) ) ) 2 )": api.ErrForm,
	}
}

// P22.1 (V2), P2: query of conditions that may not be, by each of check's errors, tells that alone, also if others ahead of them hold for something.
func TestQueryOfBadConditions(t *testing.T) {
	b := ofRules(t, broad).does("( assert p 1 2 )", "( assert e )", "( assert q 1 'a )")
	count := map[api.Errno]int{}
	for s, want := range badConds() {
		p, _, _ := parse.Parse("(rule q 0 (" + s + ") ())")
		if _, err := b.m.e.Query(p.Rules[0].Conds); err != want {
			t.Fatalf("%s: engine tells %d, want %d", s, err, want)
		}
		b.fails(want, "( query ( "+s+" ) )", "( query ( ( e ) "+s+" ) )")
		count[want]++
	}
	for _, err := range []api.Errno{api.ErrArg, api.ErrTooMany, api.ErrNone, api.ErrThere, api.ErrForm, api.ErrType} {
		if count[err] == 0 {
			t.Errorf("error %d: never", err)
		}
	}
}

// longConds is conditions whose tokens, with one blank between, have so many bytes: tests of sums of long numbers, that hold.
func longConds(many int) string {
	var sum func(leaves []string) string
	sum = func(leaves []string) string {
		if len(leaves) == 1 {
			return leaves[0]
		}
		half := len(leaves) / 2
		return "( + " + sum(leaves[:half]) + " " + sum(leaves[half:]) + " )"
	}
	make32 := func(digits int) []string {
		l := make([]string, 32)
		for i := range l {
			l[i] = "1"
			more := min(digits, 289)
			l[i] += times("0", more)
			digits -= more
		}
		return l
	}
	bare := "( ( if > " + sum(make32(0)) + " 0 ) )"
	return "( ( if > " + sum(make32(many-len(bare))) + " 0 ) )"
}

// P22.1 (V2): what is read as a rule has at most as many bytes as MaxSource, with one blank between tokens, however many stand in the line; with one more it is error 12, be the line's own bytes as few as they may.
func TestQueryOfMuch(t *testing.T) {
	b := ofRules(t, "(rule r 0 ((p (a ?x))) ())").does("( assert p 1 2 )")
	for _, many := range []int{1000, 7000, 7982, 7983} {
		s := longConds(many)
		if len(s) != many {
			t.Fatalf("%d: got %d", many, len(s))
		}
		b.tells("( query "+s+" )", "", "end").tells("(query"+s+times(" ", 8000-7-len(s))+")", "", "end")
		dense := strings.NewReplacer(" )", ")", "( ", "(", " (", "(").Replace(s)
		b.tells("(query"+dense+")", "", "end").tells("(query "+strings.Replace(dense, ")", "   \n)", 2)+" )", "", "end")
	}
	for _, many := range []int{7984, 7985, 7990, 8050} {
		s := longConds(many)
		dense := strings.NewReplacer(" )", ")", "( ", "(", " (", "(").Replace(s)
		if line := "(query" + dense + ")"; len(line) > 8000 {
			t.Fatalf("%d: the line has %d bytes", many, len(line))
		}
		b.fails(api.ErrForm, "(query"+dense+")", "( query "+dense+" )", "( query "+s+" )")
	}
	// Tokens by the thousand, that may not be, or are none.
	b.fails(api.ErrTooMany, "( query ("+times("(p)", 13)+") )", "( query ("+times("(p)", 1330)+") )").fails(api.ErrForm, "( query ("+times("(p)", 1331)+") )", "( query ("+times("(p)", 2600)+") )", "(query"+times("(", 7000)+")", "(query"+times(")", 7000)+")", "(query"+times("(", 3990)+times(")", 3990)+")", "(query"+times("(if<1", 1500)+")")
	b.fails(api.ErrForm, "( query ( ( if = 1 "+times("( + 1 ", 990)+"1"+times(" )", 990)+" ) ) )")
	b.fails(api.ErrForm, "(query((if=1 "+times("(+1 ", 1000)+"1"+times(")", 1000)+")))")
	if n := len("( rule q 0 ( " + times("( p ) ", 1330) + ") ( ) )"); n > 8000 || n+6 <= 8000 {
		t.Errorf("%d bytes", n)
	}
}

// P22.1 (V2): whatever a query tells is what engine's Query tells of the same conditions, behind any lines.
func TestQueryIsEngines(t *testing.T) {
	m, rows, errors := newMaker(3), 0, 0
	for range 200 {
		b := of(t, m.program(t))
		for range 8 {
			b.do(m.step(b))
		}
		p, _, _ := parse.Parse(b.text)
		e, _, _ := engine.New(p)
		for range 15 {
			s := m.conds()
			got := b.do("( query (" + s + ") )")
			if strings.HasPrefix(got, "error") {
				errors++
				_, want := e.Query(queried(t, s))
				if got != wrongLine(want) {
					t.Fatalf("%s: got %s, want %d", s, got, want)
				}
			}
			rows += strings.Count(got, "\n") - 1
		}
	}
	if rows < 1200 || errors < 500 {
		t.Errorf("just %d, %d", rows, errors)
	}
}

func queried(t *testing.T, s string) []api.Cond {
	t.Helper()
	p, at, err := parse.Parse("(rule any 1 (" + s + ") ())")
	if err != api.OK {
		t.Fatalf("%s: wrong at %d", s, at)
	}
	return p.Rules[0].Conds
}

// P22.1 (V2): tuples by the hundred.
func TestQueryOfMany(t *testing.T) {
	b := ofRules(t, "")
	want := []string{}
	for i := range 60 {
		b.does(fmt.Sprintf("( assert p %d 0 )", i))
	}
	for x := range 60 {
		for y := range 60 {
			want = append(want, fmt.Sprintf("x=%d y=%d #%d #%d ", x, y, x+1, y+1))
		}
	}
	b.tells("( query ( ( p ( a ?x ) ) ( p ( a ?y ) ) ) )", append(want, "end")...)
}
