package show

// nested goes through a list, and through what is in each of it, however deep: each one is handed on ahead of those in it, and behind them. What has begun stands in a list, as calls in one another have no room for all that may be.
func nested[T any](l []T, in func(T) []T, ahead, behind func(T)) {
	begun := [][]T{l} // of each list that has begun, those that are not done: of all but the last one, the first is begun
	for {
		top := len(begun) - 1
		if len(begun[top]) > 0 {
			first := begun[top][0]
			ahead(first)
			begun = append(begun, in(first))
			continue
		}
		if top == 0 {
			return
		}
		behind(begun[top-1][0])
		begun[top-1] = begun[top-1][1:]
		begun = begun[:top]
	}
}
