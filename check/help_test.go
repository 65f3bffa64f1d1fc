package check_test

import (
	"fmt"
	"reflect"
	"slices"
	"strings"
	"testing"

	"tribunal/api"
	"tribunal/check"
	"tribunal/parse"
	"tribunal/schema"
)

// times is s, n times.
func times(s string, n int) string { return strings.Repeat(s, n) }

func of(kind int, s string) api.Value { return api.Value{Kind: kind, S: s} }

// val is an expression of a value, at one of a variable, op of two.
func val(kind int, s string) api.Expr { return api.Expr{T: api.Term{V: of(kind, s)}} }

func at(name string) api.Expr { return api.Expr{T: api.Term{Var: name}} }

func op(sign string, a, b api.Expr) api.Expr { return api.Expr{Op: sign, L: []api.Expr{a, b}} }

// deepTerm is an expression with a term that many deep.
func deepTerm(deep int, e api.Expr) api.Expr {
	for range deep - 1 {
		e = op("+", val(api.Num, "1"), e)
	}
	return e
}

// fewText is templates with slots of each type, with one, and with none; two of them are of the same slots.
const fewText = "(template a (n num) (t text) (s sym) (b bool)) (template c (n num) (s sym) (m num)) (template d (n num) (s sym) (m num)) (template e) (template one (n sym))"

// parsed is a text's program.
func parsed(t testing.TB, text string) api.Program {
	t.Helper()
	p, at, err := parse.Parse(text)
	if err != api.OK {
		t.Fatalf("%s: no program, at %d", brief(text), at)
	}
	return p
}

func few(t testing.TB) []api.Template { return parsed(t, fewText).Tmpls }

// made is a schema of templates that are right.
func made(t testing.TB, l []api.Template) *schema.Schema {
	t.Helper()
	s, err, at := schema.New(l)
	if err != api.OK {
		t.Fatalf("%v: template %d is wrong", l, at)
	}
	return s
}

// rows is conditions of a text.
func rows(t testing.TB, text string) []api.Cond {
	t.Helper()
	return parsed(t, "(rule q 0 ("+text+") ())").Rules[0].Conds
}

// deeds is actions of a text.
func deeds(t testing.TB, text string) []api.Act {
	t.Helper()
	return parsed(t, "(rule q 0 () ("+text+"))").Rules[0].Acts
}

// told is what is known, as a text: "x num, f id a" is a number and a fact of template a.
func told(l []api.Known) string {
	types := map[int]string{api.Num: "num", api.Text: "text", api.Sym: "sym", api.Bool: "bool", api.Id: "id", api.Set: "set"}
	var all []string
	for _, k := range l {
		s := k.Name + " " + types[k.Type]
		if types[k.Type] == "" {
			s += fmt.Sprint(k.Type)
		}
		if k.Tmpl != "" {
			s += " " + k.Tmpl
		}
		all = append(all, s)
	}
	return strings.Join(all, ", ")
}

// untold is what is known of such a text.
func untold(text string) []api.Known {
	types := []string{"none", "num", "text", "sym", "bool", "id", "set"}
	var l []api.Known
	for one := range strings.SplitSeq(text, ", ") {
		if words := strings.Fields(one); len(words) > 1 {
			l = append(l, api.Known{Name: words[0], Type: slices.Index(types, words[1]), Tmpl: strings.Join(words[2:], "")})
		}
	}
	return l
}

// brief is a text, or how a thing is told, cut if it is long.
func brief(a any) string {
	s := fmt.Sprintf("%+v", a)
	if len(s) > 900 {
		return s[:450] + ".." + s[len(s)-448:]
	}
	return s
}

// asked is what Conds tells of conditions; it fails, unless another telling says the same.
func asked(t testing.TB, l []api.Template, conds []api.Cond) ([]api.Known, api.Errno) {
	t.Helper()
	got, err := check.Conds(made(t, l), conds)
	want, wantErr := model(l).conds(conds, 0)
	if err != wantErr || told(got) != told(want) || !slices.Equal(got, want) {
		t.Fatalf("%s: got %s, %d, want %s, %d", brief(conds), told(got), err, told(want), wantErr)
	}
	if err != api.OK && len(got) > 0 {
		t.Fatalf("%s: %s beside error %d", brief(conds), told(got), err)
	}
	return got, err
}

// known fails, unless that is what is known behind conditions of a text, with the templates of few.
func known(t testing.TB, text string, want string) {
	t.Helper()
	knownOf(t, rows(t, text), want)
}

func knownOf(t testing.TB, l []api.Cond, want string) {
	t.Helper()
	if got, err := asked(t, few(t), l); err != api.OK || told(got) != want {
		t.Fatalf("%s: got %s, %d, want %s", brief(l), told(got), err, want)
	}
}

// wrong fails, unless conditions of a text have that error, with the templates of few.
func wrong(t testing.TB, text string, want api.Errno) {
	t.Helper()
	wrongOf(t, rows(t, text), want)
}

func wrongOf(t testing.TB, l []api.Cond, want api.Errno) {
	t.Helper()
	if got, err := asked(t, few(t), l); err != want {
		t.Fatalf("%s: got %s, %d, want error %d", brief(l), told(got), err, want)
	}
}

// doing fails, unless an action has that error (OK: none), where that is known, with the templates of few.
func doing(t testing.TB, knownText string, text string, want api.Errno) {
	t.Helper()
	for _, a := range deeds(t, text) {
		doingOf(t, untold(knownText), a, want)
	}
}

func doingOf(t testing.TB, l []api.Known, a api.Act, want api.Errno) {
	t.Helper()
	got := check.Act(made(t, few(t)), l, a)
	if other := model(few(t)).act(l, a); got != want || other != want {
		t.Fatalf("%s, with %s: got %d, want %d (another one tells %d)", brief(a), told(l), got, want, other)
	}
}

// checked fails, unless a program has that error, at that place.
func checked(t testing.TB, p api.Program, want api.Errno, place int) {
	t.Helper()
	err, at := check.Check(p)
	otherErr, other := fault(p)
	if err != want || at != place || otherErr != want || other != place {
		t.Fatalf("%s: got %d, %d, want %d, %d (another one tells %d, %d)", brief(p), err, at, want, place, otherErr, other)
	}
}

// copied is a thing of the same, with lists of its own.
func copied[T any](thing T) T {
	v := reflect.New(reflect.TypeOf(thing)).Elem()
	copyIn(v, reflect.ValueOf(thing))
	return v.Interface().(T)
}

func copyIn(to, from reflect.Value) {
	switch from.Kind() {
	case reflect.Struct:
		for i := range from.NumField() {
			copyIn(to.Field(i), from.Field(i))
		}
	case reflect.Slice:
		if from.IsNil() {
			return
		}
		to.Set(reflect.MakeSlice(from.Type(), from.Len(), from.Len()))
		for i := range from.Len() {
			copyIn(to.Index(i), from.Index(i))
		}
	default:
		to.Set(from)
	}
}

// noNames is texts that are no names, for one reason each.
func noNames() []string {
	return []string{" ", times("a", 25), "a" + times("0", 24), "0", "9a", "A", "aB", "a b", " a", "a ", "a-b", "-a", "a_b", "a.b", "?a", "'a", "\"a\"", "#1", "(a)", "a\n", "a\x00", "\x00", "\u00e9", "a\u00e9", "\xff"}
}

// names is names, at the edges of what one may be, and words that mean something elsewhere.
func names() []string {
	return []string{"a", "z", "a0", "z9", times("a", 24), "z" + times("9", 23), "as", "not", "if", "let", "true", "false", "none", "count", "sum", "num", "rule", "halt"}
}

// whole is the numbers at both ends of 64 bits.
const (
	most  = 1<<63 - 1
	least = -1 << 63
)
