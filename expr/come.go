package expr

import (
	"tribunal/api"
	"tribunal/rat"
	"tribunal/value"
)

// come is Value of a right expression.
func come(e api.Expr, l []api.Bind) (api.Value, api.Errno) {
	if e.Op == "" {
		return stand(e.T, l)
	}
	a, err := come(e.L[0], l)
	if err != api.OK {
		return api.Value{}, err
	}
	b, err := come(e.L[1], l)
	if err != api.OK {
		return api.Value{}, err
	}
	return operate(e.Op, a, b)
}

// stand is a term's value.
func stand(t api.Term, l []api.Bind) (api.Value, api.Errno) {
	if t.Var == "" {
		return t.V, api.OK
	}
	v, is := Find(l, t.Var)
	if !is {
		return api.Value{}, api.ErrNone
	}
	return v, api.OK
}

// operate is what an operation makes of two values.
func operate(op string, a api.Value, b api.Value) (api.Value, api.Errno) {
	if !number(a) || !number(b) {
		return api.Value{}, api.ErrType
	}
	s, err := operations()[op](a.S, b.S)
	if err != api.OK {
		return api.Value{}, err
	}
	if len(s) > api.MaxNum {
		return api.Value{}, api.ErrTooMany
	}
	return api.Value{Kind: api.Num, S: s}, api.OK
}

// number tells whether v is one: a variable's value may be wrong.
func number(v api.Value) bool {
	return v.Kind == api.Num && value.Right(v)
}

// operations are all, by their signs.
func operations() map[string]func(string, string) (string, api.Errno) {
	return map[string]func(string, string) (string, api.Errno){
		"+": rat.Add,
		"-": rat.Sub,
		"*": rat.Mul,
		"/": rat.Div,
	}
}

// tests are all, by their signs.
func tests() map[string]func(api.Value, api.Value) bool {
	return map[string]func(api.Value, api.Value) bool{
		"=":  func(a, b api.Value) bool { return a == b },
		"!=": func(a, b api.Value) bool { return a != b },
		"<":  numbers(func(c int) bool { return c < 0 }),
		"<=": numbers(func(c int) bool { return c <= 0 }),
		">":  numbers(func(c int) bool { return c > 0 }),
		">=": numbers(func(c int) bool { return c >= 0 }),
	}
}

// numbers is a test of two numbers by which of them is less; it does not hold of other values.
func numbers(holds func(int) bool) func(api.Value, api.Value) bool {
	return func(a, b api.Value) bool {
		return number(a) && number(b) && holds(rat.Cmp(a.S, b.S))
	}
}
