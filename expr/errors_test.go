package expr_test

import (
	"testing"

	"tribunal/api"
	"tribunal/expr"
)

// checkError fails, unless e has that error, and no value beside it.
func checkError(t *testing.T, e api.Expr, l []api.Bind, want api.Errno) {
	t.Helper()
	if v, err := expr.Value(e, l); v != (api.Value{}) || err != want {
		t.Errorf("%s by %v: got %v, %d, want %d", written(e), l, v, err, want)
	}
}

// failing is right expressions, 1 to 3 deep, by the errors that they have where only ?a has a value, which is 7.
func failing() map[api.Errno][]api.Expr {
	return map[api.Errno][]api.Expr{
		api.ErrNone:    {at("b"), op("+", at("b"), n("1")), op("/", at("a"), at("c")), op("-", n("1"), op("*", at("a"), at("b")))},
		api.ErrZero:    {op("/", n("1"), n("0")), op("/", n("0"), n("0")), op("/", at("a"), op("-", at("a"), at("a"))), op("+", op("/", at("a"), n("0")), n("1"))},
		api.ErrType:    {op("+", of(sym("red")), n("1")), op("-", at("a"), of(text("1"))), op("*", api.Expr{}, api.Expr{}), op("/", n("1"), op("+", n("1"), of(boolean("true"))))},
		api.ErrTooMany: {op("+", n(times("9", 300)), n("1")), op("*", n(times("9", 151)), n(times("9", 150))), op("-", op("*", n(times("9", 300)), at("a")), n("1"))},
	}
}

// P10.1 (J2): of two with errors the first one's is told, whatever the second one's; one alone is told, at whichever side.
func TestFirstError(t *testing.T) {
	l := []api.Bind{to("a", "7")}
	for err, some := range failing() {
		for _, e := range some {
			checkError(t, e, l, err)
			for _, sign := range operations() {
				checkError(t, op(sign, e, n("0")), l, err)
				checkError(t, op(sign, n("2"), e), l, err)
				checkError(t, op(sign, of(sym("red")), e), l, err)
				checkError(t, op(sign, e, of(sym("red"))), l, err)
				for _, others := range failing() {
					for _, x := range others {
						checkError(t, op(sign, e, x), l, err)
						checkError(t, op("+", op(sign, n("1"), e), op(sign, x, x)), l, err)
						checkError(t, op("+", at("a"), op(sign, e, x)), l, err)
					}
				}
			}
		}
	}
}

// P10.1 (J2): a wrong expression is ErrArg, also with a variable without a value, and with all other errors.
func TestWrongAheadOfErrors(t *testing.T) {
	l := []api.Bind{to("a", "7")}
	for _, some := range failing() {
		for _, e := range some {
			for _, bad := range []api.Expr{at("A"), of(id("1")), of(set("")), n("2/4"), op("%", n("1"), n("2")), op("+"), {T: api.Term{Var: "b", V: num("1")}}} {
				checkError(t, op("+", e, bad), l, api.ErrArg)
				checkError(t, op("+", bad, e), l, api.ErrArg)
				checkError(t, op("/", e, op("/", n("1"), bad)), l, api.ErrArg)
			}
			checkError(t, op("+", e, left(6, at("b"))), l, api.ErrArg)
			checkError(t, op("%", e, e), l, api.ErrArg)
			checkError(t, op("+", e), l, api.ErrArg)
			checkError(t, op("+", e, e, e), l, api.ErrArg)
		}
	}
}

// noNumbers is values of each kind, right and not, but numbers.
func noNumbers() []api.Value {
	var l []api.Value
	for _, v := range everyValue() {
		if rational(v) == nil {
			l = append(l, v)
		}
	}
	return l
}

// P10.1 (J2): ErrType, if the first one, the second one or both are no right Nums.
func TestNoNumbers(t *testing.T) {
	for _, sign := range operations() {
		for _, v := range noNumbers() {
			for _, w := range []api.Value{num("0"), num("2"), sym("red"), v} {
				l := []api.Bind{{Name: "a", V: v}, {Name: "b", V: w}}
				checkError(t, op(sign, at("a"), at("b")), l, api.ErrType)
				checkError(t, op(sign, at("b"), at("a")), l, api.ErrType)
				checkError(t, op("+", op(sign, at("a"), at("b")), op("/", n("1"), n("0"))), l, api.ErrType)
				checkError(t, op(sign, at("a"), at("c")), l, api.ErrNone)
			}
		}
	}
	for _, long := range []string{times("9", 301), "-" + times("9", 300), "1/" + times("9", 299), times("9", 1900)} {
		l := []api.Bind{to("a", long)}
		checkError(t, op("-", at("a"), at("a")), l, api.ErrType)
		checkError(t, op("*", n("0"), at("a")), l, api.ErrType)
		checkError(t, op("/", at("a"), n("0")), l, api.ErrType)
	}
}

// P10.1 (J2): ErrZero of a division by 0, or by what comes to 0, but not of 0.
func TestDivisionByZero(t *testing.T) {
	l := []api.Bind{to("a", "7"), to("b", "0")}
	for _, zero := range []api.Expr{n("0"), at("b"), op("-", at("a"), at("a")), op("*", at("a"), at("b")), op("+", n("1/2"), n("-1/2")), op("/", n("0"), n("3"))} {
		for _, e := range []api.Expr{n("1"), n("-1/2"), n("0"), at("a"), at("b"), zero, n(times("9", 300))} {
			checkError(t, op("/", e, zero), l, api.ErrZero)
			checkError(t, op("+", op("/", e, zero), op("/", zero, e)), l, api.ErrZero)
		}
		if v, err := expr.Value(op("/", zero, n("3/2")), l); v != num("0") || err != api.OK {
			t.Errorf("%s by 3/2: got %v, %d", written(zero), v, err)
		}
	}
}

// P10.1 (J2): what has 300 bytes has room, what has 301 has none: sums, differences, products and quotients.
func TestRoom(t *testing.T) {
	ten := func(n int) string { return "1" + times("0", n-1) }
	nines := func(n int) string { return times("9", n) }
	for _, c := range []struct {
		sign, a, b string
		size       int
	}{
		{"+", nines(299), "0", 299}, {"+", nines(299), "1", 300}, {"+", nines(300), "0", 300}, {"+", nines(300), "1", 301}, {"+", nines(300), nines(300), 301},
		{"+", "-" + nines(298), "-1", 300}, {"+", "-" + nines(299), "-1", 301}, {"+", "-" + nines(299), "1", 300}, {"+", nines(298), "1/2", 301}, {"+", ten(298), "1/2", 300}, {"+", nines(298), "1/10", 302}, {"+", ten(299), "1/2", 301}, {"+", ten(297), "1/2", 299},
		{"-", "0", nines(298), 299}, {"-", "0", nines(299), 300}, {"-", "0", nines(300), 301}, {"-", "-" + nines(299), "1", 301}, {"-", "-" + nines(299), "-1", 300}, {"-", nines(300), "-1", 301}, {"-", nines(300), "1", 300},
		{"*", ten(150), ten(150), 299}, {"*", ten(150), ten(151), 300}, {"*", ten(151), ten(151), 301}, {"*", ten(151), "-" + ten(150), 301}, {"*", ten(150), "-" + ten(150), 300}, {"*", "1/" + ten(150), "1/" + ten(149), 300}, {"*", "1/" + ten(150), "1/" + ten(150), 301}, {"*", nines(300), nines(300), 600},
		{"/", "1", ten(297), 299}, {"/", "1", ten(298), 300}, {"/", "1", ten(299), 301}, {"/", ten(150), "1/" + ten(150), 299}, {"/", ten(150), "1/" + ten(151), 300}, {"/", ten(151), "1/" + ten(151), 301}, {"/", "-1", ten(298), 301}, {"/", "-1", ten(297), 300}, {"/", "1/" + nines(298), nines(300), 600},
	} {
		l := []api.Bind{to("a", c.a), to("b", c.b)}
		for _, e := range []api.Expr{op(c.sign, n(c.a), n(c.b)), op(c.sign, at("a"), at("b"))} {
			v, err := check(t, e, l)
			if c.size > 300 && err != api.ErrTooMany || c.size <= 300 && (len(v.S) != c.size || err != api.OK) {
				t.Errorf("%s: got %d bytes, error %d, want %d bytes", written(e), len(v.S), err, c.size)
			}
		}
	}
}

// P10.1 (J2): what comes to too much in the midst is ErrTooMany, also where it would have room again at the end.
func TestRoomInTheMidst(t *testing.T) {
	big := n(times("9", 300))
	for _, e := range []api.Expr{
		op("-", op("+", big, big), big), op("*", op("+", big, n("1")), n("0")), op("/", op("*", big, big), big),
		op("*", n("0"), op("*", big, big)), op("+", n("1"), op("-", op("+", big, n("1")), big)), op("-", op("*", big, n("10")), op("*", big, n("10"))),
		op("/", op("+", n("1"), op("/", n("1"), op("*", big, big))), n("0")),
	} {
		checkError(t, e, nil, api.ErrTooMany)
		check(t, e, nil)
	}
	if v, err := expr.Value(op("+", op("-", big, big), big), nil); v != big.T.V || err != api.OK {
		t.Errorf("got %v, %d", v, err)
	}
}
