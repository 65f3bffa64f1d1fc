package show

// place is where a list stands: what stands at one place is the same list, however often it is come to.
type place[T any] struct {
	first *T
	many  int
}

// placeOf is a list's place; all empty ones have the same.
func placeOf[T any](l []T) place[T] {
	if len(l) == 0 {
		return place[T]{}
	}
	return place[T]{&l[0], len(l)}
}

// lists is a list and all that stand in it, however deep, each once, by the numbers in whose order they are come to.
type lists[T any] struct {
	at  map[place[T]]int
	all [][]T
	in  [][]int // by list: of each of its members the list in it
}

// listsOf is l and all that stand in it.
func listsOf[T any](l []T, in func(T) []T) *lists[T] {
	ls := &lists[T]{at: map[place[T]]int{}}
	ls.number(l)
	for n := 0; n < len(ls.all); n++ {
		inner := make([]int, len(ls.all[n]))
		for i, one := range ls.all[n] {
			inner[i] = ls.number(in(one))
		}
		ls.in = append(ls.in, inner)
	}
	return ls
}

// number is a list's.
func (ls *lists[T]) number(l []T) int {
	p := placeOf(l)
	n, is := ls.at[p]
	if !is {
		n = len(ls.all)
		ls.at[p] = n
		ls.all = append(ls.all, l)
	}
	return n
}
