package show

import (
	"strconv"
	"strings"
)

// mark is what two members have in common of which all that would ever be written is alike: what is written ahead of the list in each, and that list's class.
type mark struct {
	words string
	class int
}

// ending is in, but for what stands in itself: such a one has no text that ends, and is written as if nothing was in it. open writes what is ahead of those in a member. What is left out hangs on the members alone, and not on which of them stand at the same place.
func ending[T any](l []T, in func(T) []T, open func(*writer, T)) func(T) []T {
	words := func(one T) string {
		var w writer
		open(&w, one)
		return w.text()
	}
	ls := listsOf(l, in)
	round := rounds(ls.in)
	if !ls.leadBack(round) {
		return in
	}
	class := classesOf(ls.texts(words), ls.in)
	endless := ls.endless(round, class, words)
	return func(one T) []T {
		inner := in(one)
		if len(inner) > 0 && endless[mark{words(one), class[ls.number(inner)]}] > 0 {
			return nil
		}
		return inner
	}
}

// leadBack tells whether one of the lists stands in itself.
func (ls *lists[T]) leadBack(round []int) bool {
	for n, l := range ls.in {
		for _, inner := range l {
			if round[inner] == round[n] {
				return true
			}
		}
	}
	return false
}

// texts is what is written of each list, but for the lists in it.
func (ls *lists[T]) texts(words func(T) string) []string {
	l := make([]string, len(ls.all))
	for n, members := range ls.all {
		var text strings.Builder
		for _, one := range members {
			s := words(one)
			text.WriteString(strconv.Itoa(len(s)) + ":" + s)
		}
		l[n] = text.String()
	}
	return l
}

// endless is the marks of what stands in itself: of the members of lists that stand in the list in that member.
func (ls *lists[T]) endless(round, class []int, words func(T) string) map[mark]int {
	marks := map[mark]int{}
	for n, l := range ls.all {
		for i, one := range l {
			if inner := ls.in[n][i]; round[inner] == round[n] {
				marks[mark{words(one), class[inner]}] = 1
			}
		}
	}
	return marks
}
