package expr_test

import (
	"math/big"
	"math/rand"
	"reflect"
	"regexp"
	"slices"
	"strconv"
	"strings"
	"testing"

	"tribunal/api"
	"tribunal/expr"
)

func num(s string) api.Value  { return api.Value{Kind: api.Num, S: s} }
func text(s string) api.Value { return api.Value{Kind: api.Text, S: s} }
func sym(s string) api.Value  { return api.Value{Kind: api.Sym, S: s} }
func id(s string) api.Value   { return api.Value{Kind: api.Id, S: s} }
func set(s string) api.Value  { return api.Value{Kind: api.Set, S: s} }

func boolean(s string) api.Value { return api.Value{Kind: api.Bool, S: s} }

// of is an expression that is a value; n is one that is a number; at is one that is a variable.
func of(v api.Value) api.Expr      { return api.Expr{T: api.Term{V: v}} }
func n(s string) api.Expr          { return of(num(s)) }
func at(name string) api.Expr      { return api.Expr{T: api.Term{Var: name}} }
func to(name, s string) api.Bind   { return api.Bind{Name: name, V: num(s)} }
func times(s string, n int) string { return strings.Repeat(s, n) }

// op is an operation of those.
func op(sign string, l ...api.Expr) api.Expr { return api.Expr{Op: sign, L: l} }

func operations() []string { return []string{"+", "-", "*", "/"} }

func tests() []string { return []string{"=", "!=", "<", "<=", ">", ">="} }

// noOperations is texts that are no operations, but the empty one, which is of a term.
func noOperations() []string {
	return []string{"%", "++", " ", " +", "+ ", "//", "-*", "<", "=", "add", "^", "\x00", "\x00+", "+\x00", "\u2212", "\u00d7", "\xff", times("+", 100), times("x", 100000)}
}

// noTests is texts that are no tests.
func noTests() []string {
	return []string{"", " ", "==", "=<", "=>", "<>", "!", "!==", "< ", " <", "<<", ">>", "+", "-", "lt", "\x00", "=\x00", "\xff", "\u2264", times("=", 100000)}
}

// names is names that variables may have.
func names() []string {
	return []string{"a", "z", "x", "a0", "z9", "none", "true", "false", "not", "red", "a1b2", times("a", 24), "z" + times("9", 23)}
}

// noNames is texts that are no names, but the empty one, which is of a term that is a value.
func noNames() []string {
	return []string{" ", "A", "aB", "Ab", "0", "9a", "a-b", "a b", " a", "a ", "a_b", "?a", "'a", "#1", "1/2", "a\n", "a\x00", "\x00", "\u00e9", "a\u0661", "\xff", times("a", 25), "a" + times("0", 24), times("a", 100000)}
}

// single is right values that a term may have, of each kind.
func single() []api.Value {
	return []api.Value{{}, num("0"), num("7"), num("-3/2"), num(times("9", 300)), num("-" + times("9", 299)), num("1/" + times("9", 298)), text(""), text("a"), text("0"), text("true"), text(times("~", 100)), sym("a"), sym("true"), sym("none"), sym(times("z", 24)), boolean("true"), boolean("false")}
}

// byVariables is right values that come by variables alone.
func byVariables() []api.Value {
	return []api.Value{id("0"), id("7"), id("999999999"), set(""), set("1"), set("none, 1, 'a"), set(`"a", #7`)}
}

// wrong is values that are not right, of each kind, and of none.
func wrong() []api.Value {
	l := []api.Value{{S: "0"}, {S: "none"}, {Kind: -1}, {Kind: 7}, {Kind: 7, S: "1"}, {Kind: -1 << 62, S: "a"}, {Kind: 1<<32 + 1, S: "1"}}
	for _, s := range []string{"", "a", "01", "-0", "2/4", "1/1", "1/0", "0/1", "+1", " 1", "1 ", "1/-2", "--1", "1.5", "true", times("9", 301), "-" + times("9", 300), "1/" + times("9", 299)} {
		l = append(l, num(s))
	}
	for _, s := range []string{"\n", `"`, "\x7f", "\u00e9", "\xff", times("~", 101)} {
		l = append(l, text(s))
	}
	for _, s := range []string{"", "1", "A", "a b", "'a", times("a", 25)} {
		l = append(l, sym(s), boolean(s))
	}
	return append(l, boolean("True"), id(""), id("07"), id("-1"), id("1000000000"), id("#1"), set(" "), set("2, 1"), set("1,2"), set("1, 1"), set("a"))
}

// texts is what a value's S looks like, by its kind, as another one tells it.
var texts = []*regexp.Regexp{
	regexp.MustCompile(`\A\z`),
	regexp.MustCompile(`\A-?[0-9]+(?:/[1-9][0-9]*)?\z`),
	regexp.MustCompile(`\A[ !#-~]{0,100}\z`),
	regexp.MustCompile(`\A[a-z][a-z0-9]{0,23}\z`),
	regexp.MustCompile(`\A(?:true|false)\z`),
}

// rational is the number of a right Num, as math/big has it; nil: v is none.
func rational(v api.Value) *big.Rat {
	if v.Kind != 1 || len(v.S) > 300 || !texts[1].MatchString(v.S) {
		return nil
	}
	r, is := new(big.Rat).SetString(v.S)
	if !is || r.RatString() != v.S {
		return nil
	}
	return r
}

// mayStand tells whether a term may be so.
func mayStand(t api.Term) bool {
	switch {
	case t.Var != "":
		return texts[3].MatchString(t.Var) && t.V.Kind == 0 && t.V.S == ""
	case t.V.Kind == 1:
		return rational(t.V) != nil
	}
	return 0 <= t.V.Kind && t.V.Kind < len(texts) && texts[t.V.Kind].MatchString(t.V.S)
}

// isRight tells whether an expression may be so, row by row: the rows are what stands equally deep.
func isRight(e api.Expr) bool {
	row := []api.Expr{e}
	for deep := 1; len(row) > 0; deep++ {
		var next []api.Expr
		for _, x := range row {
			if x.Op == "" && (len(x.L) > 0 || !mayStand(x.T)) {
				return false
			}
			if x.Op != "" && (!slices.Contains(operations(), x.Op) || len(x.L) != 2 || x.T.Var != "" || x.T.V.Kind != 0 || x.T.V.S != "") {
				return false
			}
			next = append(next, x.L...)
		}
		if deep > 6 {
			return false
		}
		row = next
	}
	return true
}

// varsOf is the variables of an expression, as Vars has to tell them.
func varsOf(e api.Expr) []string {
	var l []string
	if !isRight(e) {
		return nil
	}
	stack := []api.Expr{e}
	for len(stack) > 0 {
		x := stack[len(stack)-1]
		stack = stack[:len(stack)-1]
		if x.Op != "" {
			stack = append(stack, x.L[1], x.L[0])
		} else if x.T.Var != "" && !slices.Contains(l, x.T.Var) {
			l = append(l, x.T.Var)
		}
	}
	return l
}

// found is the value of a variable, by a map, into which the last one goes first.
func found(l []api.Bind, name string) (api.Value, bool) {
	m := map[string]api.Value{}
	for i := len(l) - 1; i >= 0; i-- {
		m[l[i].Name] = l[i].V
	}
	v, is := m[name]
	return v, is
}

// valueOf is what Value has to answer.
func valueOf(e api.Expr, l []api.Bind) (api.Value, api.Errno) {
	if !isRight(e) {
		return api.Value{}, 1
	}
	if e.Op == "" {
		if e.T.Var == "" {
			return e.T.V, 0
		}
		v, is := found(l, e.T.Var)
		if !is {
			return api.Value{}, 3
		}
		return v, 0
	}
	a, errA := valueOf(e.L[0], l)
	b, errB := valueOf(e.L[1], l)
	if errA != 0 || errB != 0 {
		return api.Value{}, firstOf(errA, errB)
	}
	return reckoned(e.Op, a, b)
}

func firstOf(a, b api.Errno) api.Errno {
	if a != 0 {
		return a
	}
	return b
}

// reckoned is what an operation makes of two values.
func reckoned(sign string, a, b api.Value) (api.Value, api.Errno) {
	x, y := rational(a), rational(b)
	if x == nil || y == nil {
		return api.Value{}, 31
	}
	z := new(big.Rat)
	switch sign {
	case "+":
		z.Add(x, y)
	case "-":
		z.Sub(x, y)
	case "*":
		z.Mul(x, y)
	case "/":
		if y.Sign() == 0 {
			return api.Value{}, 21
		}
		z.Quo(x, y)
	}
	if len(z.RatString()) > 300 {
		return api.Value{}, 2
	}
	return num(z.RatString()), 0
}

// holds is what Test has to answer.
func holds(sign string, a, b api.Expr, l []api.Bind) bool {
	v, errA := valueOf(a, l)
	w, errB := valueOf(b, l)
	if errA != 0 || errB != 0 {
		return false
	}
	switch sign {
	case "=":
		return v.Kind == w.Kind && v.S == w.S
	case "!=":
		return v.Kind != w.Kind || v.S != w.S
	}
	x, y := rational(v), rational(w)
	if x == nil || y == nil {
		return false
	}
	switch sign {
	case "<":
		return x.Cmp(y) == -1
	case "<=":
		return x.Cmp(y) != 1
	case ">":
		return x.Cmp(y) == 1
	case ">=":
		return x.Cmp(y) != -1
	}
	return false
}

// written is how an expression looks, cut if it is long.
func written(e api.Expr) string {
	s := ""
	switch {
	case e.Op == "" && e.T.Var != "":
		s = "?" + e.T.Var
	case e.Op == "":
		s = strconv.Itoa(e.T.V.Kind) + ":" + e.T.V.S
	default:
		s = "(" + e.Op
		for _, x := range e.L {
			s += " " + written(x)
		}
		s += ")"
	}
	if len(s) > 200 {
		return s[:100] + ".." + s[len(s)-98:]
	}
	return s
}

// check fails, unless Right, Vars and Value answer of e what they have to; what Value answers.
func check(t *testing.T, e api.Expr, l []api.Bind) (api.Value, api.Errno) {
	t.Helper()
	if got := expr.Right(e); got != isRight(e) {
		t.Fatalf("%s: right: got %v, want %v", written(e), got, !got)
	}
	if got := expr.Vars(e); !slices.Equal(got, varsOf(e)) {
		t.Fatalf("%s: variables: got %v, want %v", written(e), got, varsOf(e))
	}
	v, err := expr.Value(e, l)
	if want, wantErr := valueOf(e, l); v != want || err != wantErr {
		t.Fatalf("%s by %v: got %v, %d, want %v, %d", written(e), l, v, err, want, wantErr)
	}
	return v, err
}

// checkTests fails, unless each test of both answers what it has to.
func checkTests(t *testing.T, a, b api.Expr, l []api.Bind) {
	t.Helper()
	for _, sign := range append(tests(), noTests()...) {
		if got := expr.Test(sign, a, b, l); got != holds(sign, a, b, l) {
			t.Fatalf("(%s %s %s) by %v: got %v", sign, written(a), written(b), l, got)
		}
	}
}

// places is each place in an expression, as a way from its top.
func places(e api.Expr) [][]int {
	l := [][]int{nil}
	for i, x := range e.L {
		for _, way := range places(x) {
			l = append(l, append([]int{i}, way...))
		}
	}
	return l
}

// with is e, but x at that place: all lists are new.
func with(e api.Expr, way []int, x api.Expr) api.Expr {
	if len(way) == 0 {
		return x
	}
	e.L = slices.Clone(e.L)
	e.L[way[0]] = with(e.L[way[0]], way[1:], x)
	return e
}

// in is what stands at a place.
func in(e api.Expr, way []int) api.Expr {
	for _, i := range way {
		e = e.L[i]
	}
	return e
}

// copied is e, with lists of its own, that have that much spare room.
func copied(e api.Expr, room int) api.Expr {
	if e.L == nil {
		return e
	}
	l := make([]api.Expr, 0, len(e.L)+room)
	for _, x := range e.L {
		l = append(l, copied(x, room))
	}
	for i := range room {
		l[:cap(l)][len(l)+i] = n("4" + strconv.Itoa(i))
	}
	e.L = l
	return e
}

// alike tells whether both are the same, what stands in them and in their spare room too.
func alike(a, b api.Expr) bool {
	same := func(x, y api.Expr) bool { return alike(x, y) }
	return a.Op == b.Op && reflect.DeepEqual(a.T, b.T) && slices.EqualFunc(a.L[:cap(a.L)], b.L[:cap(b.L)], same)
}

// full is an expression of that many rows, whose operations have two of each; the terms go around in the row.
func full(deep int, terms ...api.Expr) api.Expr {
	row := make([]api.Expr, 1<<(deep-1))
	for i := range row {
		row[i] = terms[i%len(terms)]
	}
	for k := 0; len(row) > 1; k++ {
		for i := range len(row) / 2 {
			row[i] = op(operations()[(i+k)%3], row[2*i], row[2*i+1])
		}
		row = row[:len(row)/2]
	}
	return row[0]
}

// left is an expression so deep at its left; right is one at its right; both is one at both, one below the other.
func left(deep int, term api.Expr) api.Expr {
	e := term
	for range deep - 1 {
		e = op("+", e, term)
	}
	return e
}

func right(deep int, term api.Expr) api.Expr {
	e := term
	for range deep - 1 {
		e = op("-", term, e)
	}
	return e
}

func both(deep int, term api.Expr) api.Expr {
	e := term
	for i := range deep - 1 {
		if i%2 == 0 {
			e = op("*", e, term)
		} else {
			e = op("+", term, e)
		}
	}
	return e
}

// maker makes expressions, and variables' values.
type maker struct{ *rand.Rand }

func newMaker(seed int64) maker { return maker{rand.New(rand.NewSource(seed))} }

func pick[T any](m maker, l []T) T { return l[m.Intn(len(l))] }

// number is a number's text: mostly a short one, so that some are alike.
func (m maker) number() string {
	switch m.Intn(12) {
	case 0:
		return pick(m, []string{times("9", 300), "-" + times("9", 299), "1/" + times("9", 298), "1" + times("0", 299), "1" + times("0", 149), times("9", 150), times("9", 151)})
	case 1, 2, 3:
		return big.NewRat(m.Int63n(19)-9, m.Int63n(5)+1).RatString()
	}
	return strconv.Itoa(m.Intn(7) - 3)
}

// value is any: mostly a number.
func (m maker) value() api.Value {
	switch m.Intn(12) {
	case 0:
		return pick(m, single())
	case 1:
		return pick(m, byVariables())
	case 2:
		return pick(m, wrong())
	}
	return num(m.number())
}

// term is mostly a right one, of a number or a variable.
func (m maker) term() api.Expr {
	switch m.Intn(40) {
	case 0:
		return of(m.value())
	case 1:
		return of(pick(m, single()))
	case 2:
		return at(pick(m, append(names(), noNames()...)))
	case 3:
		return api.Expr{T: api.Term{Var: "a", V: m.value()}}
	}
	if m.Intn(2) == 0 {
		return at(string(rune('a' + m.Intn(5))))
	}
	return n(m.number())
}

// any is mostly a right one, at most so deep.
func (m maker) any(deep int) api.Expr {
	if deep <= 1 || m.Intn(4) == 0 {
		return m.term()
	}
	e := op(pick(m, operations()), m.any(deep-1), m.any(deep-1))
	switch m.Intn(120) {
	case 0:
		e.Op = pick(m, append(noOperations(), ""))
	case 1:
		e.T = m.term().T
	case 2:
		e.L = append(e.L, m.term())[:m.Intn(4)]
	}
	return e
}

// binds is some variables' values; some have none, some have two.
func (m maker) binds() []api.Bind {
	var l []api.Bind
	for range m.Intn(9) {
		l = append(l, api.Bind{Name: string(rune('a' + m.Intn(6))), V: m.value()})
	}
	return l
}
