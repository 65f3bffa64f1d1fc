package expr_test

import (
	"slices"
	"testing"

	"tribunal/api"
	"tribunal/expr"
)

// P10.1 (J3): each test of numbers that are less, alike and greater.
func TestEachTest(t *testing.T) {
	less, alike, more := []string{"!=", "<", "<="}, []string{"=", "<=", ">="}, []string{"!=", ">", ">="}
	for _, c := range []struct {
		a, b string
		want []string
	}{
		{"1", "2", less}, {"2", "2", alike}, {"3", "2", more}, {"9", "10", less}, {"-9", "-10", more}, {"-1", "0", less}, {"0", "0", alike}, {"0", "-1/2", more},
		{"1/3", "1/2", less}, {"1/2", "1/2", alike}, {"2/3", "1/2", more}, {"-1/2", "-1/3", less}, {"1", "3/2", less}, {"2", "3/2", more},
		{times("9", 299), times("9", 300), less}, {times("9", 300), times("9", 300), alike}, {"1/" + times("9", 297), "1/" + times("9", 298), more}, {"-" + times("9", 299), "1/" + times("9", 298), less},
	} {
		l := []api.Bind{to("a", c.a), to("b", c.b)}
		for _, sign := range append(tests(), noTests()...) {
			want := slices.Contains(c.want, sign)
			for _, got := range []bool{expr.Test(sign, n(c.a), n(c.b), nil), expr.Test(sign, at("a"), at("b"), l), expr.Test(sign, n(c.a), op("+", at("b"), n("0")), l)} {
				if got != want {
					t.Errorf("(%s %s %s): got %v", sign, c.a, c.b, got)
				}
			}
		}
	}
}

// P10.1 (J3): tests of values of each kind, right and not, each with each other: alike in text and not in kind too.
func TestOfAllKinds(t *testing.T) {
	values := append(everyValue(), text("7"), sym("a"), id("1"), set("1"), num("1"), text("1"), boolean("1"), text("none"), text("red"), sym("red"), num("red"), set("red"))
	for _, v := range values {
		for _, w := range values {
			l := []api.Bind{{Name: "a", V: v}, {Name: "b", V: w}}
			checkTests(t, at("a"), at("b"), l)
			same, other := expr.Test("=", at("a"), at("b"), l), expr.Test("!=", at("a"), at("b"), l)
			if same != (v == w) || other == same {
				t.Fatalf("%v and %v: = is %v, != is %v", v, w, same, other)
			}
			if rational(v) == nil || rational(w) == nil {
				for _, sign := range []string{"<", "<=", ">", ">="} {
					if expr.Test(sign, at("a"), at("b"), l) {
						t.Fatalf("%v %s %v holds", v, sign, w)
					}
				}
			}
		}
	}
	for _, v := range single() {
		for _, w := range single() {
			checkTests(t, of(v), of(w), nil)
		}
	}
}

// P10.1 (J3): a test does not hold, if the one, the other or both have an error, whatever it asks.
func TestOfErrors(t *testing.T) {
	l := []api.Bind{to("a", "7")}
	bad := []api.Expr{at("A"), of(id("1")), n("2/4"), op("%", n("1"), n("2")), op("+"), left(7, n("1"))}
	for _, some := range failing() {
		bad = append(bad, some...)
	}
	for _, e := range bad {
		for _, sign := range append(tests(), noTests()...) {
			for _, good := range []api.Expr{{}, n("0"), n("7"), at("a"), of(sym("red")), op("+", n("1"), n("2"))} {
				if expr.Test(sign, e, good, l) || expr.Test(sign, good, e, l) {
					t.Errorf("%s %q %s holds, or the other way round", written(e), sign, written(good))
				}
			}
			for _, x := range bad {
				if expr.Test(sign, e, x, l) {
					t.Errorf("%s %q %s holds", written(e), sign, written(x))
				}
			}
		}
	}
}

// P10.1 (J3): = and != are of what both come to, not of how they stand.
func TestOfWhatTheyComeTo(t *testing.T) {
	l := []api.Bind{to("a", "7"), to("b", "7"), {Name: "c", V: text("7")}}
	for _, c := range []struct {
		a, b api.Expr
		want bool
	}{
		{at("a"), at("b"), true}, {at("a"), n("7"), true}, {op("+", n("3"), n("4")), at("a"), true}, {op("/", n("14"), n("4")), op("-", at("a"), n("7/2")), true},
		{at("a"), at("c"), false}, {n("7"), of(text("7")), false}, {at("a"), op("-", at("a"), n("1")), false}, {at("c"), at("c"), true}, {api.Expr{}, api.Expr{}, true}, {api.Expr{}, of(text("")), false},
	} {
		if expr.Test("=", c.a, c.b, l) != c.want || expr.Test("!=", c.a, c.b, l) == c.want {
			t.Errorf("%s and %s: want %v", written(c.a), written(c.b), c.want)
		}
	}
}

// P10.3: of each two numbers just one of <, = and > holds, and each other test is what these say.
func TestJustOne(t *testing.T) {
	m := newMaker(1)
	for range 6000 {
		a, b, l := m.any(3), m.any(3), m.binds()
		v, errA := expr.Value(a, l)
		w, errB := expr.Value(b, l)
		if errA != api.OK || errB != api.OK || rational(v) == nil || rational(w) == nil {
			continue
		}
		checkOne(t, a, b, l)
		checkOne(t, a, a, l)
		checkOne(t, a, of(w), l)
		checkOne(t, op("-", b, n("0")), of(w), l)
	}
}

// checkOne fails, unless just one of <, = and > holds of both, and the other tests are what these say.
func checkOne(t *testing.T, a, b api.Expr, l []api.Bind) {
	t.Helper()
	holds := map[string]int{}
	for _, sign := range tests() {
		if expr.Test(sign, a, b, l) {
			holds[sign] = 1
		}
	}
	less, same, more := holds["<"], holds["="], holds[">"]
	if less+same+more != 1 || holds["<="] != less+same || holds[">="] != same+more || holds["!="] != less+more {
		t.Fatalf("%s and %s by %v: %v", written(a), written(b), l, holds)
	}
	back := map[string]string{"<": ">", ">": "<", "<=": ">=", ">=": "<=", "=": "=", "!=": "!="}
	for sign, other := range back {
		if expr.Test(sign, a, b, l) != expr.Test(other, b, a, l) {
			t.Fatalf("%s and %s by %v: %s one way, and not %s the other", written(a), written(b), l, sign, other)
		}
	}
}
