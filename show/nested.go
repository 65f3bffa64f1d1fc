package show

// nested goes through a list, and through what is in each of it, however deep: each one is handed on ahead of those in it, and behind them. What has begun stands in a list, as calls in one another have no room for all that may be.
func nested[T any](l []T, in func(T) []T, ahead, behind func(T)) {
	begun := [][]T{l} // of each list that has begun, those that are not done: of all but the last one, the first is begun
	for {
		top := len(begun) - 1
		if len(begun[top]) > 0 {
			first := begun[top][0]
			ahead(first)
			begun = append(begun, in(first))
			continue
		}
		if top == 0 {
			return
		}
		behind(begun[top-1][0])
		begun[top-1] = begun[top-1][1:]
		begun = begun[:top]
	}
}

// pair is two lists that are to be the same.
type pair[T any] struct{ a, b []T }

// alike tells whether two lists are the same, and so what is in each of them, however deep; same tells it of two, but for those in them.
func alike[T any](a, b []T, in func(T) []T, same func(a, b T) bool) bool {
	for left := []pair[T]{{a, b}}; len(left) > 0; {
		last := left[len(left)-1]
		left = left[:len(left)-1]
		if len(last.a) != len(last.b) {
			return false
		}
		for i, one := range last.a {
			if !same(one, last.b[i]) {
				return false
			}
			if inner := (pair[T]{in(one), in(last.b[i])}); len(inner.a)+len(inner.b) > 0 {
				left = append(left, inner)
			}
		}
	}
	return true
}
