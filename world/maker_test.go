package world_test

import (
	"fmt"
	"math/rand"
	"strings"
	"testing"

	"tribunal/api"
	"tribunal/world"
)

// maker makes programs' texts, and lines, of few names and values, the same ones each time.
type maker struct{ *rand.Rand }

func newMaker(seed int64) maker { return maker{rand.New(rand.NewSource(seed))} }

// one is one of those.
func one[T any](m maker, those ...T) T { return those[m.Intn(len(those))] }

// some is up to so many of those, one behind the other.
func (m maker) some(most int, those ...string) string {
	s := ""
	for range m.Intn(most + 1) {
		s += one(m, those...)
	}
	return s
}

// conds is up to three conditions, that mostly may be.
func (m maker) conds() string {
	return m.some(3, "(p (a ?x))", "(p (a ?x) (b ?y))", "(as ?f (p (a ?x)))", "(as ?f (p (b ?x)))", "(as ?g (q (a ?x)))", "(q (s ?s))", "(e)", "(as ?h (w (n ?x) (t ?t)))", "(p (a 1))", "(q (s 'a) (a ?y))",
		"(not (e))", "(not (p (a ?x) (b ?x)))", "(not (q (a ?x)))", "(if < ?x 2)", "(if = ?x 1)", "(if != ?x ?y)", "(if >= (+ ?x 1) ?y)", "(if = ?s 'a)", "(if < 1 2)",
		"(let ?n count ?f () ((as ?f (p))))", "(let ?n sum ?x (?y) ((p (a ?x) (b ?y))))", "(let ?l set ?k () ((as ?k (q))))", "(let ?m min ?k () ((w (n ?k))))", "(let ?v avg ?x () ((p (a ?x)) (not (e))))", "(let ?l set ?s (?x) ((q (a ?x) (s ?s))))", "(let ?g max ?k () ((as ?k (e))))", "(let ?n max ?k () ((let ?k count ?s (?x) ((q (a ?x) (s ?s))))))")
}

// acts is up to three actions, that mostly may be, behind some conditions.
func (m maker) acts() string {
	return m.some(3, "(print ?x)", "(print ?n)", "(print ?l)", "(print ?m)", "(print ?f)", "(print \"a) b\")", "(print (/ ?y ?x))", "(print (/ 1 0))", "(print (+ ?m 1))", "(assert e)", "(assert p (a ?x) (b 1))", "(assert p (b ?m) (a 0))", "(assert q (s 'b) (a ?x))", "(assert q (s ?s) (a 1))",
		"(retract ?f)", "(retract ?g)", "(modify ?f (a (+ ?x 1)))", "(modify ?f)", "(modify ?g (s 'b))", "(modify ?h (t \"\") (b false))", "(halt)")
}

// rules is some, that mostly may not be.
func (m maker) rule(name string) string {
	return fmt.Sprintf("(rule %s %d (%s) (%s))", name, one(m, 0, 0, 0, 1, -1, 1000), m.conds(), m.acts())
}

// program is a text of those templates, and up to four rules that may be.
func (m maker) program(t testing.TB) string {
	t.Helper()
	text := templates
	for i := range 1 + m.Intn(4) {
		for range 1000 {
			rule := m.rule(one(m, "r", "rule", "fired", "end") + fmt.Sprint(i))
			if _, err, _ := world.New(templates + rule); err == api.OK {
				text += rule + m.some(2, " ", "\n", "\t", "\r\n")
				break
			}
		}
	}
	worldOf(t, text)
	return text
}

// value is one of a slot's type, or seldom of another.
func (m maker) value(kind int) string {
	if m.Intn(30) == 0 {
		return one(m, "none", "true", "'a", "\"a\"", "1", nines(300), "x", "?x", "(1)", "+", "01", "#1", "{}")
	}
	return one(m, [][]string{api.Num: {"1", "1", "2", "0", "-1/2"}, api.Text: {"\"a\"", "\"\"", "\"( e )\""}, api.Sym: {"'a", "'a", "'b"}, api.Bool: {"true", "false"}}[kind]...)
}

// slots is the slots of a template, by their names.
func slots(tmpl string) ([]string, []int) {
	switch tmpl {
	case "p":
		return []string{"a", "b"}, []int{api.Num, api.Num}
	case "q":
		return []string{"a", "s"}, []int{api.Num, api.Sym}
	case "w":
		return []string{"n", "t", "s", "b"}, []int{api.Num, api.Text, api.Sym, api.Bool}
	}
	return nil, nil
}

// id is the number of one of those facts; seldom of none, or no number.
func (m maker) id(l []api.Fact) string {
	if len(l) == 0 || m.Intn(12) == 0 {
		return one(m, "0", "1", "2", "7", "99", "999999999", "1000000000", "01", "-1", "1/2", "'a", "\"1\"", "true", "x", "?x")
	}
	return fmt.Sprint(one(m, l...).Id)
}

// assert is a line that mostly tells a fact.
func (m maker) assert() string {
	tmpl := one(m, "p", "p", "p", "q", "q", "e", "w")
	line := "( assert " + tmpl
	_, kinds := slots(tmpl)
	for _, kind := range kinds {
		line += " " + m.value(kind)
	}
	return line + one(m, "", "", "", "", "", "", "", "", "", " 1") + " )"
}

func (m maker) modify(l []api.Fact) string {
	if len(l) == 0 {
		return "( modify " + m.id(l) + " ( a 1 ) )"
	}
	f := one(m, l...)
	line := fmt.Sprintf("( modify %d", f.Id)
	names, kinds := slots(f.Tmpl)
	for i := range names {
		if m.Intn(2) == 0 {
			line += " ( " + names[i] + " " + m.value(kinds[i]) + " )"
		}
	}
	return line + one(m, "", "", "", "", "", "", " ( a 2 )", " ( z 1 )", " ( s )", " 1") + " )"
}

// still is a line that changes nothing: one that asks, or one that is wrong.
func (m maker) still(l []api.Fact) string {
	switch m.Intn(6) {
	case 0:
		return "( facts )"
	case 1:
		return "( agenda )"
	case 2, 3:
		return "( query (" + m.conds() + ") )"
	}
	return m.broken(m.right(l))
}

// right is a line of any kind, that mostly is right.
func (m maker) right(l []api.Fact) string {
	switch m.Intn(10) {
	case 0:
		return "( retract " + m.id(l) + " )"
	case 1:
		return m.modify(l)
	case 2, 3:
		return "( run " + one(m, "0", "1", "1", "2", "3", "5") + " )"
	case 4:
		return m.still(l)
	}
	return m.assert()
}

// broken is a line, a byte or a few of which are others, or none.
func (m maker) broken(line string) string {
	at := m.Intn(len(line))
	behind := min(len(line), at+m.Intn(3))
	return line[:at] + m.some(2, "(", ")", " ", "1", "a", "?x", "'a", "\"", "\"a\"", "#", "+", "<=", "true", "\n", "\x00", "\v", "/") + line[behind:]
}

// step is a line for a world, in which few facts are to stay.
func (m maker) step(b *both) string {
	b.t.Helper()
	l := b.w.Facts()
	switch {
	case len(l) > 7:
		return fmt.Sprintf("( retract %d )", one(m, l...).Id)
	case m.Intn(8) == 0:
		return m.broken(m.right(l))
	}
	return m.right(l)
}

// spread is a line with other blanks between its tokens, or none, where none is needed.
func (m maker) spread(line string) string {
	var s strings.Builder
	quoted := false
	for i := range len(line) {
		quoted = quoted != (line[i] == '"')
		if line[i] != ' ' || quoted {
			s.WriteByte(line[i])
			continue
		}
		if m.Intn(3) == 0 && (strings.Contains("()", line[max(i-1, 0):i]) || strings.Contains("()", line[i+1:min(i+2, len(line))])) {
			continue
		}
		s.WriteString(one(m, " ", "  ", "\t", "\r", " \t\r "))
	}
	return s.String()
}
