package parse_test

import (
	"fmt"
	"reflect"
	"slices"
	"strings"
	"testing"

	"tribunal/api"
	"tribunal/lex"
	"tribunal/parse"
)

// told is what Parse has to answer: where a text is wrong is told by the grammar, and which program it is by its brackets.
func told(s string) (api.Program, int, api.Errno) {
	l, at, err := lex.Lex(s)
	if err != api.OK {
		return api.Program{}, at, err
	}
	if i, is := wrongToken(l); is {
		return api.Program{}, placeOf(l, i, s), api.ErrForm
	}
	return programOf(l), 0, api.OK
}

// placeOf is where the token number i of a text stands; the text's end, if it has no more.
func placeOf(l []api.Token, i int, s string) int {
	if i == len(l) {
		return len(s)
	}
	return l[i].At
}

// same tells whether both are the same in all, empty lists and none being the same.
func same(a, b any) bool { return sameIn(reflect.ValueOf(a), reflect.ValueOf(b)) }

func sameIn(a, b reflect.Value) bool {
	switch a.Kind() {
	case reflect.Struct:
		for i := range a.NumField() {
			if !sameIn(a.Field(i), b.Field(i)) {
				return false
			}
		}
		return true
	case reflect.Slice:
		for i := range min(a.Len(), b.Len()) {
			if !sameIn(a.Index(i), b.Index(i)) {
				return false
			}
		}
		return a.Len() == b.Len()
	}
	return a.Equal(b)
}

// brief is a text, or how a thing is told, cut if it is long.
func brief(a any) string {
	s := fmt.Sprintf("%+v", a)
	if len(s) > 400 {
		return s[:200] + ".." + s[len(s)-198:]
	}
	return s
}

// check fails, unless Parse answers of s what it has to; the answer.
func check(t *testing.T, s string) (api.Program, int, api.Errno) {
	t.Helper()
	p, at, err := parse.Parse(s)
	want, wantAt, wantErr := told(s)
	if !same(p, want) || at != wantAt || err != wantErr {
		t.Fatalf("%s: got %s, %d, %d, want %s, %d, %d", brief(s), brief(p), at, err, brief(want), wantAt, wantErr)
	}
	return p, at, err
}

// checkRight fails, unless s is the text of that program.
func checkRight(t *testing.T, s string, want api.Program) {
	t.Helper()
	if p, at, err := check(t, s); !same(p, want) || at != 0 || err != api.OK {
		t.Fatalf("%s: got %s, %d, %d, want %s", brief(s), brief(p), at, err, brief(want))
	}
}

// mark is where the tests' texts are wrong; it is not of the texts.
const mark = "^"

// checkWrong fails, unless a text is no program's, because of what stands behind its mark.
func checkWrong(t *testing.T, marked string) {
	t.Helper()
	ahead, behind, is := strings.Cut(marked, mark)
	if !is {
		t.Fatalf("%s: has no mark", brief(marked))
	}
	checkPlace(t, ahead+behind, len(ahead), api.ErrForm)
}

// checkPlace fails, unless s is no program's text, for what stands at a place.
func checkPlace(t *testing.T, s string, place int, want api.Errno) {
	t.Helper()
	if p, at, err := check(t, s); !same(p, api.Program{}) || at != place || err != want {
		t.Fatalf("%s: got %s, %d, %d, want nothing, %d, %d", brief(s), brief(p), at, err, place, want)
	}
}

// checkAs fails, unless of s Parse tells what it tells of another text of the same tokens: the same program, or the same token that is wrong.
func checkAs(t *testing.T, s, other string) {
	t.Helper()
	l, _, _ := lex.Lex(s)
	m, _, _ := lex.Lex(other)
	if !slices.EqualFunc(l, m, func(a, b api.Token) bool { return a.Kind == b.Kind && a.S == b.S }) {
		t.Fatalf("%s and %s: not of the same tokens", brief(s), brief(other))
	}
	p, at, err := check(t, s)
	p2, at2, err2 := check(t, other)
	if !same(p, p2) || err != err2 {
		t.Fatalf("%s: got %s, %d, and of %s %s, %d", brief(s), brief(p), err, brief(other), brief(p2), err2)
	}
	if err == api.ErrForm && tokenAt(l, at) != tokenAt(m, at2) {
		t.Fatalf("%s: wrong at %d, and %s at %d", brief(s), at, brief(other), at2)
	}
}

// tokenAt is which of these stands at a place; behind the last one, if none does.
func tokenAt(l []api.Token, at int) int {
	for i, t := range l {
		if t.At == at {
			return i
		}
	}
	return len(l)
}

func name(s string) api.Token     { return api.Token{Kind: api.TokName, S: s} }
func variable(s string) api.Token { return api.Token{Kind: api.TokVar, S: s} }
func val(s string) api.Token      { return api.Token{Kind: api.TokValue, S: s} }
func sign(s string) api.Token     { return api.Token{Kind: api.TokSign, S: s} }

// tokens is those of a text that has some.
func tokens(t *testing.T, s string) []api.Token {
	t.Helper()
	l, _, err := lex.Lex(s)
	if err != api.OK {
		t.Fatalf("%s: no tokens: %d", brief(s), err)
	}
	return l
}

// times is s, n times.
func times(s string, n int) string { return strings.Repeat(s, n) }
