package expr_test

import (
	"slices"
	"testing"

	"tribunal/api"
	"tribunal/expr"
)

// P10.1, P1: any expression, by any values, held against another telling; enough are right, and of each error.
func TestAnother(t *testing.T) {
	m := newMaker(2)
	often := map[api.Errno]int{}
	for range 15000 {
		e, l := m.any(1+m.Intn(7)), m.binds()
		_, err := check(t, e, l)
		often[err]++
	}
	for _, err := range []api.Errno{api.OK, api.ErrArg, api.ErrTooMany, api.ErrNone, api.ErrZero, api.ErrType} {
		if often[err] < 100 {
			t.Errorf("error %d: %d times", err, often[err])
		}
	}
}

// P10.1 (J3), P1: tests of any two expressions, held against another telling.
func TestAnotherTest(t *testing.T) {
	m := newMaker(3)
	for range 2000 {
		checkTests(t, m.any(1+m.Intn(4)), m.any(1+m.Intn(4)), m.binds())
	}
}

// P10.1 (J1), P1: Find of any name, held against another telling.
func TestAnotherFind(t *testing.T) {
	m := newMaker(4)
	for range 20000 {
		l, name := m.binds(), string(rune('a'+m.Intn(7)))
		want, wantIs := found(l, name)
		if v, is := expr.Find(l, name); v != want || is != wantIs {
			t.Fatalf("%s in %v: got %v, %v", name, l, v, is)
		}
	}
}

// besides is l, with other variables' values put in ahead, behind and between, and with more ones of l's own variables behind.
func besides(m maker, l []api.Bind, vars []string) []api.Bind {
	var all []api.Bind
	other := func() {
		for range m.Intn(3) {
			name := pick(m, []string{"q", "r", "aa", "ab", "ba", "x1", "", "A", " a", "a "})
			if !slices.Contains(vars, name) {
				all = append(all, api.Bind{Name: name, V: m.value()})
			}
		}
	}
	for _, b := range l {
		other()
		all = append(all, b)
		if m.Intn(3) == 0 {
			all = append(all, api.Bind{Name: b.Name, V: m.value()})
		}
	}
	other()
	return all
}

// P10.2: values of other variables, put in anywhere, change nothing, and nor do ones of the same that stand behind.
func TestOtherVariables(t *testing.T) {
	m := newMaker(5)
	for range 4000 {
		e, x, l := m.any(1+m.Intn(6)), m.any(3), m.binds()
		vars := append(expr.Vars(e), expr.Vars(x)...)
		more := besides(m, l, vars)
		v, err := expr.Value(e, l)
		if w, errAgain := check(t, e, more); v != w || err != errAgain {
			t.Fatalf("%s: by %v: %v, %d; by %v: %v, %d", written(e), l, v, err, more, w, errAgain)
		}
		for _, sign := range tests() {
			if expr.Test(sign, e, x, l) != expr.Test(sign, e, x, more) {
				t.Fatalf("(%s %s %s): one way by %v, and another way by %v", sign, written(e), written(x), l, more)
			}
		}
	}
}

// P10.2: what stands for the variables alone does as well as all, in whatever order, and values of others may be any.
func TestVariablesAlone(t *testing.T) {
	m := newMaker(6)
	for range 4000 {
		e, l := m.any(1+m.Intn(6)), m.binds()
		var just []api.Bind
		for _, name := range expr.Vars(e) {
			if v, is := expr.Find(l, name); is {
				just = append(just, api.Bind{Name: name, V: v})
			}
		}
		m.Shuffle(len(just), func(i, k int) { just[i], just[k] = just[k], just[i] })
		v, err := expr.Value(e, l)
		if w, errAgain := expr.Value(e, just); v != w || err != errAgain {
			t.Fatalf("%s: by %v: %v, %d; by %v: %v, %d", written(e), l, v, err, just, w, errAgain)
		}
	}
}

// P10.2: an expression with its variables' values in their places comes to the same, where these may stand.
func TestPutIn(t *testing.T) {
	m := newMaker(7)
	for range 4000 {
		e, l := m.any(1+m.Intn(6)), m.binds()
		if !expr.Right(e) {
			continue
		}
		full := e
		for _, way := range places(e) {
			x := in(e, way)
			if v, is := expr.Find(l, x.T.Var); x.T.Var != "" && is && mayStand(api.Term{V: v}) {
				full = with(full, way, of(v))
			}
		}
		v, err := expr.Value(e, l)
		if w, errAgain := check(t, full, l); v != w || err != errAgain {
			t.Fatalf("%s by %v: %v, %d; %s: %v, %d", written(e), l, v, err, written(full), w, errAgain)
		}
	}
}
