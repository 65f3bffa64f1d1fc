package show

// sames is lists that are held to be the same: of each that is not the last of its kind another one of it.
type sames[T any] struct{ next map[place[T]]place[T] }

func newSames[T any]() sames[T] { return sames[T]{map[place[T]]place[T]{}} }

// last is the last one of a list's kind.
func (s sames[T]) last(p place[T]) place[T] {
	for {
		next, is := s.next[p]
		if !is {
			return p
		}
		// The way gets shorter for those that come behind.
		if behind, is := s.next[next]; is {
			s.next[p] = behind
		}
		p = next
	}
}

// hold has two lists be held to be the same; false: they are already.
func (s sames[T]) hold(a, b []T) bool {
	p, q := s.last(placeOf(a)), s.last(placeOf(b))
	if p == q {
		return false
	}
	s.next[p] = q
	return true
}

// pair is two lists that are to be the same.
type pair[T any] struct{ a, b []T }

// alike tells whether two lists are the same, and so what is in each of them, however deep; same tells it of two, but for those in them. Two that were come to are held to be the same, till others differ: so lists that hold themselves have an end.
func (s sames[T]) alike(a, b []T, in func(T) []T, same func(a, b T) bool) bool {
	for left := []pair[T]{{a, b}}; len(left) > 0; {
		last := left[len(left)-1]
		left = left[:len(left)-1]
		if len(last.a) != len(last.b) {
			return false
		}
		if !s.hold(last.a, last.b) {
			continue
		}
		for i, one := range last.a {
			if !same(one, last.b[i]) {
				return false
			}
			if inner := (pair[T]{in(one), in(last.b[i])}); len(inner.a)+len(inner.b) > 0 {
				left = append(left, inner)
			}
		}
	}
	return true
}
