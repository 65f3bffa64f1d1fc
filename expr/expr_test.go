package expr_test

import (
	"slices"
	"testing"

	"tribunal/api"
	"tribunal/expr"
)

// checkRight fails, unless e is right or not as told, and each call answers of it what it has to.
func checkRight(t *testing.T, e api.Expr, want bool) {
	t.Helper()
	if got := expr.Right(e); got != want {
		t.Errorf("%s: right: got %v", written(e), got)
	}
	_, err := check(t, e, nil)
	if (err == api.ErrArg) == want {
		t.Errorf("%s: value: got error %d", written(e), err)
	}
	if vars := expr.Vars(e); !want && len(vars) > 0 {
		t.Errorf("%s: variables: got %v", written(e), vars)
	}
}

// P10.1 (J1): a term that is a value is right if the value is, and no fact's number and no set.
func TestRightValues(t *testing.T) {
	for _, v := range single() {
		checkRight(t, of(v), true)
	}
	for _, v := range append(byVariables(), wrong()...) {
		checkRight(t, of(v), false)
	}
	checkRight(t, api.Expr{}, true)
}

// P10.1 (J1): a term that is a variable is right if that has a name, and no value beside it but a zero one.
func TestRightVariables(t *testing.T) {
	for _, name := range names() {
		checkRight(t, at(name), true)
		for _, v := range append(append(single()[1:], byVariables()...), wrong()...) {
			checkRight(t, api.Expr{T: api.Term{Var: name, V: v}}, false)
		}
	}
	for _, name := range noNames() {
		checkRight(t, at(name), false)
		checkRight(t, api.Expr{T: api.Term{Var: name, V: num("1")}}, false)
	}
}

// P10.1 (J1): a term has no expressions beside it.
func TestRightTermWithOthers(t *testing.T) {
	for _, term := range []api.Expr{n("1"), at("a"), {}, of(sym("red"))} {
		for many := range 4 {
			e := term
			for range many {
				e.L = append(e.L, n("2"))
			}
			checkRight(t, e, many == 0)
		}
		term.L = make([]api.Expr, 0, 9)
		checkRight(t, term, true)
	}
}

// P10.1 (J1): an operation is one of four, and has two expressions, and a zero term.
func TestRightOperations(t *testing.T) {
	for _, sign := range operations() {
		checkRight(t, op(sign, n("1"), at("a")), true)
		checkRight(t, op(sign, of(sym("red")), api.Expr{}), true)
		checkRight(t, op(sign), false)
		checkRight(t, op(sign, n("1")), false)
		checkRight(t, op(sign, n("1"), n("2"), n("3")), false)
		checkRight(t, api.Expr{Op: sign, L: slices.Repeat([]api.Expr{n("1")}, 200000)}, false)
		for _, term := range []api.Term{{Var: "a"}, {V: num("1")}, {V: num("")}, {V: api.Value{S: "x"}}, {V: text("")}, {Var: "a", V: num("1")}, {Var: " "}} {
			checkRight(t, api.Expr{Op: sign, T: term, L: []api.Expr{n("1"), n("2")}}, false)
		}
	}
	for _, sign := range noOperations() {
		checkRight(t, op(sign, n("1"), n("2")), false)
		checkRight(t, api.Expr{Op: sign, T: num1()}, false)
		checkRight(t, op("+", n("1"), op(sign, n("1"), n("2"))), false)
	}
}

func num1() api.Term { return api.Term{V: num("1")} }

// P10.1 (J1): an expression of which one is wrong, at whatever place, is wrong.
func TestRightEverywhere(t *testing.T) {
	whole := full(6, n("1"), at("a"), of(text("b")))
	deep := both(6, at("z"))
	for _, e := range []api.Expr{whole, deep, left(6, n("1")), right(6, n("1"))} {
		checkRight(t, e, true)
		for _, way := range places(e) {
			checkRight(t, with(e, way, of(id("1"))), false)
			checkRight(t, with(e, way, at("A")), false)
			checkRight(t, with(e, way, op("%", n("1"), n("2"))), false)
			checkRight(t, with(e, way, op("+", n("1"))), false)
			checkRight(t, with(e, way, n("5")), true)
			checkRight(t, with(e, way, at("b")), true)
			checkRight(t, with(e, way, op("/", n("1"), n("2"))), len(way) < 5)
			checkRight(t, with(e, way, right(3, n("2"))), len(way) < 4)
		}
	}
}

// P10.1 (J1): six may stand in one another, and not seven.
func TestRightDeep(t *testing.T) {
	for _, term := range []api.Expr{n("1"), at("a")} {
		for deep := 1; deep <= 9; deep++ {
			for _, e := range []api.Expr{left(deep, term), right(deep, term), both(deep, term), full(deep, term)} {
				checkRight(t, e, deep <= 6)
				checkRight(t, op("/", e, n("1")), deep <= 5)
				checkRight(t, op("/", n("1"), e), deep <= 5)
				checkRight(t, op("/", e, e), deep <= 5)
			}
		}
	}
	for _, deep := range []int{100, 5000, 300000} {
		for _, e := range []api.Expr{left(deep, n("1")), right(deep, at("a")), both(deep, n("1"))} {
			if expr.Right(e) || len(expr.Vars(e)) > 0 {
				t.Errorf("%d deep: right", deep)
			}
			if v, err := expr.Value(e, nil); v != (api.Value{}) || err != api.ErrArg {
				t.Errorf("%d deep: got %v, %d", deep, v, err)
			}
		}
	}
}

// P10.1 (J1), P1: an expression that stands in itself is wrong, and each call of it ends.
func TestRightInItself(t *testing.T) {
	for _, sign := range append(operations(), "", "%") {
		l := []api.Expr{n("1"), n("2")}
		l[1] = op(sign, l...)
		l[1].L = l
		for _, e := range []api.Expr{l[1], op("+", n("1"), l[1]), op("+", l[1], l[1])} {
			v, err := expr.Value(e, nil)
			if expr.Right(e) || len(expr.Vars(e)) > 0 || v != (api.Value{}) || err != api.ErrArg || expr.Test("=", e, e, nil) || expr.Test("!=", e, n("1"), nil) {
				t.Errorf("%q in itself: got %v, %d", sign, v, err)
			}
		}
	}
}

// P10.1 (J1): the variables, each once, in the order in which they stand.
func TestVars(t *testing.T) {
	for _, c := range []struct {
		e    api.Expr
		want []string
	}{
		{n("1"), nil}, {of(sym("a")), nil}, {api.Expr{}, nil}, {at("a"), []string{"a"}},
		{op("+", n("1"), n("2")), nil},
		{op("+", at("a"), n("2")), []string{"a"}},
		{op("+", n("2"), at("a")), []string{"a"}},
		{op("-", at("b"), at("a")), []string{"b", "a"}},
		{op("*", at("a"), at("a")), []string{"a"}},
		{op("/", at("c"), op("+", at("b"), at("c"))), []string{"c", "b"}},
		{op("/", op("+", at("b"), at("c")), at("c")), []string{"b", "c"}},
		{op("/", op("+", at("z"), op("*", n("1"), at("y"))), op("-", at("x"), at("w"))), []string{"z", "y", "x", "w"}},
		{op("+", at("a"), op("+", at("b"), op("+", at("c"), at("a")))), []string{"a", "b", "c"}},
		{full(6, at("c"), at("a"), n("1"), at("b")), []string{"c", "a", "b"}},
		{left(6, at("q")), []string{"q"}},
		{op("+", at("a"), op("%", at("b"), at("c"))), nil},
		{op("+", at("a"), at("B")), nil},
		{op("+", at("a"), of(set("1"))), nil},
		{op("+", at("a"), at("b"), at("c")), nil},
		{left(7, at("a")), nil},
		{api.Expr{T: api.Term{Var: "a"}, L: []api.Expr{at("b")}}, nil},
	} {
		if got := expr.Vars(c.e); !slices.Equal(got, c.want) {
			t.Errorf("%s: got %v, want %v", written(c.e), got, c.want)
		}
	}
	many := full(6, n("0"))
	var want []string
	for i, way := range places(many) {
		if len(way) == 5 {
			want = append(want, "v"+times("a", 20)+string(rune('a'+i/8))+string(rune('a'+i%8)))
			many = with(many, way, at(want[len(want)-1]))
		}
	}
	if got := expr.Vars(many); len(want) != 32 || !slices.Equal(got, want) {
		t.Errorf("of many: got %v, want %v", got, want)
	}
}

// P10.1 (J1): the value of the first one of that name.
func TestFind(t *testing.T) {
	odd := api.Bind{Name: " no name", V: num("x")}
	for _, c := range []struct {
		l    []api.Bind
		name string
		want api.Value
		is   bool
	}{
		{nil, "a", api.Value{}, false}, {nil, "", api.Value{}, false}, {[]api.Bind{}, "a", api.Value{}, false},
		{[]api.Bind{to("b", "1"), to("aa", "2"), to("A", "3")}, "a", api.Value{}, false},
		{[]api.Bind{to("a", "1")}, "a", num("1"), true},
		{[]api.Bind{to("a", "1")}, "", api.Value{}, false},
		{[]api.Bind{to("a", "1"), to("b", "2"), to("c", "3")}, "c", num("3"), true},
		{[]api.Bind{to("a", "1"), to("b", "2"), to("c", "3")}, "b", num("2"), true},
		{[]api.Bind{to("a", "1"), to("a", "1")}, "a", num("1"), true},
		{[]api.Bind{to("b", "0"), to("a", "1"), to("a", "2"), to("b", "3")}, "a", num("1"), true},
		{[]api.Bind{to("b", "0"), to("a", "1"), to("a", "2"), to("b", "3")}, "b", num("0"), true},
		{[]api.Bind{{Name: "a"}, to("a", "2")}, "a", api.Value{}, true},
		{[]api.Bind{{Name: "a", V: set("1")}, to("a", "2")}, "a", set("1"), true},
		{[]api.Bind{to("a", "1"), {V: sym("red")}}, "", sym("red"), true},
		{[]api.Bind{to("a", "1"), odd}, " no name", num("x"), true},
		{[]api.Bind{odd}, "noname", api.Value{}, false},
	} {
		if v, is := expr.Find(c.l, c.name); v != c.want || is != c.is {
			t.Errorf("%q in %v: got %v, %v", c.name, c.l, v, is)
		}
	}
}

// everyValue is values of each kind, right and not.
func everyValue() []api.Value { return append(append(single(), byVariables()...), wrong()...) }

// P10.1 (J2): a term comes to its value, a variable to its own, whatever that is; ErrNone: it has none.
func TestValueOfTerms(t *testing.T) {
	for _, v := range single() {
		if got, err := expr.Value(of(v), nil); got != v || err != api.OK {
			t.Errorf("%v: got %v, %d", v, got, err)
		}
	}
	for _, v := range everyValue() {
		for _, name := range names() {
			l := []api.Bind{to("other", "5"), {Name: name, V: v}, to(name, "6")}
			if got, err := expr.Value(at(name), l); got != v || err != api.OK {
				t.Errorf("%s, which is %v: got %v, %d", name, v, got, err)
			}
			if got, err := expr.Value(at(name), l[:1]); got != (api.Value{}) || err != api.ErrNone {
				t.Errorf("%s, which is nothing: got %v, %d", name, got, err)
			}
		}
	}
	for _, name := range noNames() {
		if got, err := expr.Value(at(name), []api.Bind{to(name, "1")}); got != (api.Value{}) || err != api.ErrArg {
			t.Errorf("%q: got %v, %d", name, got, err)
		}
	}
}

// P10.1 (J2): each operation, as its first one and its second one stand.
func TestValueOfOperations(t *testing.T) {
	l := []api.Bind{to("a", "7"), to("b", "-2"), to("c", "1/3")}
	for _, c := range []struct {
		e    api.Expr
		want string
	}{
		{op("+", at("a"), at("b")), "5"}, {op("-", at("a"), at("b")), "9"}, {op("*", at("a"), at("b")), "-14"}, {op("/", at("a"), at("b")), "-7/2"},
		{op("+", at("b"), at("a")), "5"}, {op("-", at("b"), at("a")), "-9"}, {op("*", at("b"), at("a")), "-14"}, {op("/", at("b"), at("a")), "-2/7"},
		{op("+", n("1/2"), n("1/2")), "1"}, {op("-", n("1/2"), n("1/2")), "0"}, {op("*", n("2"), n("1/2")), "1"}, {op("/", n("1/2"), n("1/2")), "1"},
		{op("/", n("0"), n("-5")), "0"}, {op("*", n("0"), n("-5")), "0"}, {op("-", n("0"), n("5/6")), "-5/6"}, {op("/", n("6"), n("4")), "3/2"},
		{op("-", op("-", n("1"), n("2")), op("-", n("3"), n("5"))), "1"},
		{op("-", n("1"), op("-", n("2"), op("-", n("3"), n("5")))), "-3"},
		{op("/", op("/", n("1"), n("2")), op("/", n("3"), n("5"))), "5/6"},
		{op("/", op("+", at("c"), at("c")), op("*", at("a"), at("c"))), "2/7"},
		{right(6, n("1")), "0"}, {left(6, at("a")), "42"},
	} {
		if v, err := expr.Value(c.e, l); v != num(c.want) || err != api.OK {
			t.Errorf("%s: got %v, %d, want %s", written(c.e), v, err, c.want)
		}
	}
}

// P10.1 (J2): each operation of each two of some numbers, held against another telling.
func TestValueOfPairs(t *testing.T) {
	l := []string{"0", "1", "-1", "2", "-2", "3", "7", "10", "1/2", "-1/2", "1/3", "2/3", "-3/2", "7/2", "6/7", "-5/6", "99/100", "4294967296", "-18446744073709551616", "1/4294967297", times("9", 150), times("9", 299), times("9", 300), "-" + times("9", 299), "1/" + times("9", 298), "-1/" + times("9", 149), times("7", 149) + "/" + times("9", 150)}
	for _, a := range l {
		for _, b := range l {
			for _, sign := range operations() {
				check(t, op(sign, n(a), n(b)), nil)
				check(t, op(sign, at("a"), at("b")), []api.Bind{to("a", a), to("b", b)})
			}
		}
	}
}
