package lex_test

import (
	"slices"
	"testing"

	"tribunal/api"
	"tribunal/lex"
)

// P3: what Lex answers is new memory, its spare room too: who changes it changes nothing that is told behind that.
func TestTokensAreNew(t *testing.T) {
	m := newMaker(7)
	for range 2000 {
		s := m.any()
		first, _, _ := lex.Lex(s)
		kept := slices.Clone(first)
		second, _ := check(t, s)
		for i := range second[:cap(second)] {
			second[:cap(second)][i] = api.Token{Kind: 9, S: "changed", At: -1}
		}
		if !slices.Equal(first, kept) {
			t.Fatalf("%q: got %v, and then %v", s, kept, first)
		}
		check(t, s)
	}
}

// P3: what Join is handed is not changed, nor its spare room, and not kept.
func TestJoinLeavesAlone(t *testing.T) {
	m := newMaker(8)
	for range 3000 {
		l := m.list(8)
		for i := range l {
			l[i].At = m.Intn(100)
		}
		roomy := append(slices.Clone(l), variable("room"), sign("("), name("spare"))
		before := slices.Clone(roomy)
		s := lex.Join(roomy[:len(l)])
		if !slices.Equal(roomy, before) {
			t.Fatalf("Join of %v has changed it", l)
		}
		for i := range roomy {
			roomy[i] = val("77")
		}
		if s != joined(l) || lex.Join(l) != joined(l) {
			t.Fatalf("Join of %v: got %q, want %q", l, s, joined(l))
		}
	}
}

// P3: Join's text stays, when the tokens that it was made of are changed.
func TestJoinOfLexed(t *testing.T) {
	l, _ := check(t, `(a ?b -1/2 "c")`)
	s := lex.Join(l)
	for i := range l {
		l[i].S, l[i].Kind = "changed", api.TokVar
	}
	if s != `( a ?b -1/2 "c" )` || lex.Join(l) != "?changed ?changed ?changed ?changed ?changed ?changed" {
		t.Errorf("got %q and %q", s, lex.Join(l))
	}
}

// P3: each call's answer hangs on its arguments alone, whatever was called ahead of it, wrong calls too.
func TestSameAgain(t *testing.T) {
	m := newMaker(9)
	for range 3000 {
		s, other := m.any(), m.any()
		l, _ := check(t, s)
		text := lex.Join(l)
		lex.Lex(other)
		lex.Lex(times("(", 8001))
		lex.Lex(`"` + other)
		lex.Join([]api.Token{{Kind: 7, S: other}})
		check(t, s)
		if lex.Join(l) != text {
			t.Fatalf("%q: joined as %q, and then as %q", s, text, lex.Join(l))
		}
	}
}

// P1: any text ends, without a panic, and is as another one tells it, there and back.
func FuzzLex(f *testing.F) {
	m := newMaker(10)
	for _, one := range kinds() {
		f.Add(bytesOf(one), 1, "x")
	}
	for range 200 {
		f.Add(m.any(), m.Intn(7)-1, m.of("a?\"' \xff", m.Intn(3)))
	}
	f.Fuzz(func(t *testing.T, s string, kind int, text string) {
		l, err := check(t, s)
		if err == api.OK && len(joined(l)) <= 8000 {
			checkBack(t, l)
		}
		l = append(l, api.Token{Kind: kind, S: text}, variable(text))
		if got := lex.Join(l); got != joined(l) {
			t.Fatalf("%v: got %q, want %q", few(l), brief(got), brief(joined(l)))
		}
	})
}
