package bind

import (
	"cmp"
	"slices"
)

// against is -1, 0 or 1, by the first parts of two rows that are unlike, as order has these; a row that is the beginning of the other one stands ahead of it.
func against[T any](a, b []T, order func(T, T) int) int {
	for i := range min(len(a), len(b)) {
		if c := order(a[i], b[i]); c != 0 {
			return c
		}
	}
	return cmp.Compare(len(a), len(b))
}

// rise tells whether each part of a row stands ahead of the next one.
func rise[T any](l []T, order func(T, T) int) bool {
	for i := 1; i < len(l); i++ {
		if order(l[i-1], l[i]) >= 0 {
			return false
		}
	}
	return true
}

// once is a row of the parts of l, each once, in l's own memory; false: two that are unlike are to stand at one place.
func once[T comparable](l []T, order func(T, T) int) ([]T, bool) {
	slices.SortFunc(l, order)
	row := slices.Compact(l)
	return row, rise(row, order)
}

// together is two rows that rise in one, each part once; false: two that are unlike are to stand at one place.
func together[T comparable](a, b []T, order func(T, T) int) ([]T, bool) {
	row := make([]T, 0, len(a)+len(b))
	for len(a) > 0 && len(b) > 0 {
		switch c := order(a[0], b[0]); {
		case c < 0:
			row, a = append(row, a[0]), a[1:]
		case c > 0:
			row, b = append(row, b[0]), b[1:]
		case a[0] != b[0]:
			return nil, false
		default:
			row, a, b = append(row, a[0]), a[1:], b[1:]
		}
	}
	return append(append(row, a...), b...), true
}
