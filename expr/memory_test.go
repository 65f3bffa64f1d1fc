package expr_test

import (
	"slices"
	"testing"

	"tribunal/api"
	"tribunal/expr"
)

// P3: what is handed in is not changed, nor the spare room of its lists.
func TestLeavesAlone(t *testing.T) {
	m := newMaker(8)
	for range 4000 {
		e, x := copied(m.any(1+m.Intn(7)), m.Intn(3)), copied(m.any(4), 1)
		l := append(m.binds(), to("room", "1"), to("spare", "2"))
		eBefore, xBefore, lBefore := copyRoomy(e), copyRoomy(x), slices.Clone(l)
		short := l[:len(l)-2]
		expr.Right(e)
		expr.Vars(e)
		expr.Value(e, short)
		expr.Test(pick(m, tests()), e, x, short)
		expr.Test(pick(m, noTests()), e, x, short)
		expr.Find(short, "a")
		if !alike(e, eBefore) || !alike(x, xBefore) || !slices.Equal(l, lBefore) {
			t.Fatalf("%s, %s or %v is changed", written(eBefore), written(xBefore), lBefore)
		}
	}
}

// copyRoomy is e, with lists of its own, and what stands in their spare room too.
func copyRoomy(e api.Expr) api.Expr {
	if e.L == nil {
		return e
	}
	l := make([]api.Expr, cap(e.L))
	for i, x := range e.L[:cap(e.L)] {
		l[i] = copyRoomy(x)
	}
	e.L = l[:len(e.L)]
	return e
}

// P3: what Vars tells is new memory, its spare room too: who changes it changes nothing that is told behind that.
func TestVarsAreNew(t *testing.T) {
	m := newMaker(9)
	for range 4000 {
		e := m.any(1 + m.Intn(6))
		before := copyRoomy(e)
		first := expr.Vars(e)
		kept := slices.Clone(first)
		second := expr.Vars(e)
		for i := range second[:cap(second)] {
			second[:cap(second)][i] = "changed"
		}
		if !slices.Equal(first, kept) || !alike(e, before) {
			t.Fatalf("%s: got %v, and then %v", written(before), kept, first)
		}
		check(t, e, nil)
	}
}

// P3: what is handed in is not kept: when it is changed behind the call, what was told stays, and what is told then is of what is there.
func TestNotKept(t *testing.T) {
	m := newMaker(10)
	for range 4000 {
		e, l := copied(m.any(1+m.Intn(6)), 0), m.binds()
		same, sameBinds := copied(e, 0), slices.Clone(l)
		v, err := check(t, e, l)
		vars := expr.Vars(e)
		kept := slices.Clone(vars)
		if len(e.L) > 0 {
			e.L[0] = m.term()
		}
		for i := range l {
			l[i] = api.Bind{Name: string(rune('a' + i)), V: m.value()}
		}
		check(t, e, l)
		if !slices.Equal(vars, kept) {
			t.Fatalf("%s: got %v, and then %v", written(same), kept, vars)
		}
		if w, errAgain := check(t, same, sameBinds); v != w || err != errAgain {
			t.Fatalf("%s by %v: got %v, %d, and then %v, %d", written(same), sameBinds, v, err, w, errAgain)
		}
	}
}

// P3: each call's answer hangs on its arguments alone, whatever was called ahead of it.
func TestSameAgain(t *testing.T) {
	m := newMaker(11)
	for range 4000 {
		e, x, l := m.any(1+m.Intn(6)), m.any(3), m.binds()
		sign := pick(m, tests())
		v, err := check(t, e, l)
		is := expr.Test(sign, e, x, l)
		other, values := m.any(7), m.binds()
		expr.Value(other, values)
		expr.Vars(other)
		expr.Test(sign, x, other, values)
		if w, errAgain := check(t, e, l); v != w || err != errAgain || expr.Test(sign, e, x, l) != is {
			t.Fatalf("%s by %v: got %v, %d, and then %v, %d", written(e), l, v, err, w, errAgain)
		}
	}
}

// built is an expression out of bytes: each one an operation, a variable or a value, the texts for those that are odd.
func built(code []byte, odd string, deep int) (api.Expr, []byte) {
	if len(code) == 0 {
		return api.Expr{}, nil
	}
	c := code[0]
	code = code[1:]
	switch {
	case c < 8 || deep > 20:
		return n(string(rune('0' + c%8))), code
	case c < 16:
		return at(string(rune('a' + c%8))), code
	case c < 20:
		return of(api.Value{Kind: int(c) - 16, S: odd}), code
	case c == 20:
		return at(odd), code
	case c == 21:
		return n(odd), code
	}
	sign := odd
	if c%5 != 4 {
		sign = operations()[c%5]
	}
	e := api.Expr{Op: sign}
	many := 2
	if c > 250 {
		many = int(c) - 250
	}
	for range many {
		var x api.Expr
		x, code = built(code, odd, deep+1)
		e.L = append(e.L, x)
	}
	return e, code
}

// P1: any expression, and any values, end without a panic, and are as another one tells them.
func FuzzExpr(f *testing.F) {
	m := newMaker(12)
	for range 200 {
		code := make([]byte, m.Intn(40))
		m.Read(code)
		f.Add(code, pick(m, append(names(), noNames()[:20]...)), m.number(), m.Intn(9)-1)
	}
	f.Fuzz(func(t *testing.T, code []byte, odd string, number string, kind int) {
		e, rest := built(code, odd, 1)
		x, _ := built(rest, number, 1)
		l := []api.Bind{to("a", number), {Name: "b", V: api.Value{Kind: kind, S: odd}}, to("c", "0"), {Name: odd, V: num("5/3")}}
		check(t, e, l)
		check(t, x, l)
		for _, sign := range append(tests(), odd) {
			if got := expr.Test(sign, e, x, l); got != holds(sign, e, x, l) {
				t.Fatalf("(%s %s %s) by %v: got %v", sign, written(e), written(x), l, got)
			}
		}
	})
}
