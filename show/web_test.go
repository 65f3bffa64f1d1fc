package show_test

import (
	"fmt"
	"maps"
	"slices"
	"strings"
	"testing"
	"time"

	"tribunal/api"
	"tribunal/show"
)

// web is expressions, or conditions, that all stand in one list; what is in each of them is a part of that, so that some may stand in themselves.
type web[T any] struct {
	*sort[T]
	bare     []T // what each of them is, but for those in it
	from, to []int
}

// sort is what there is to know of expressions, or of conditions.
type sort[T any] struct {
	bare  func(maker) T
	put   func(one *T, inner []T)
	inner func(T) []T
	told  func(T) string
	shown func(T) bool // is what is in it shown?
	show  func(T) string
	in    func(T) api.Program
}

func exprSort() *sort[api.Expr] {
	return &sort[api.Expr]{
		bare: func(m maker) api.Expr {
			return api.Expr{Op: one(m, "+", "+", "+", "-", ""), T: api.Term{Var: one(m, "", "", "", "x")}}
		},
		put:   func(one *api.Expr, inner []api.Expr) { one.L = inner },
		inner: func(e api.Expr) []api.Expr { return e.L },
		told:  toldExpr,
		shown: func(e api.Expr) bool { return e.Op != "" },
		show:  show.Expr,
		in:    printing,
	}
}

func condSort() *sort[api.Cond] {
	return &sort[api.Cond]{
		bare: func(m maker) api.Cond {
			return api.Cond{Kind: one(m, api.CondLet, api.CondLet, api.CondLet, api.CondLet, api.CondNot, api.CondIf), Var: one(m, "x", "x", "x", "y"), A: one(m, num("1"), num("1"), two("+", num("1"), num("2"))), By: one(m, nil, nil, []string{"b"})}
		},
		put:   func(one *api.Cond, inner []api.Cond) { one.Over = inner },
		inner: func(c api.Cond) []api.Cond { return c.Over },
		told:  toldCond,
		shown: func(c api.Cond) bool { return c.Kind == api.CondLet },
		show:  show.Cond,
		in:    counting,
	}
}

// counting is a program of which a rule has a condition.
func counting(c api.Cond) api.Program { return api.Program{Rules: []api.Rule{{Conds: []api.Cond{c}}}} }

// webOf is one of that many.
func webOf[T any](m maker, s *sort[T], many int) web[T] {
	w := web[T]{sort: s}
	for range many {
		from := m.Intn(many + 1)
		w.bare, w.from, w.to = append(w.bare, s.bare(m)), append(w.from, from), append(w.to, from+min(m.Intn(3), many-from))
	}
	return w
}

// made is that, in memory of its own.
func (w web[T]) made() []T {
	l := slices.Clone(w.bare)
	for i := range l {
		w.put(&l[i], l[w.from[i]:w.to[i]])
	}
	return l
}

// kinds tells which are alike: by each one's label, and then as often as there are any by what is in them. All says whether what is in one counts, too, where it is not shown.
func (w web[T]) kinds(all bool, label func(T) string) []int {
	kinds := make([]int, len(w.bare))
	for range len(w.bare) + 1 {
		seen, next := map[string]int{}, make([]int, len(w.bare))
		for i, one := range w.bare {
			s := label(one)
			if all || w.shown(one) {
				s += fmt.Sprint(kinds[w.from[i]:w.to[i]])
			}
			if _, is := seen[s]; !is {
				seen[s] = len(seen)
			}
			next[i] = seen[s]
		}
		kinds = next
	}
	return kinds
}

// below is which stand in that one, however deep, and are shown there.
func (w web[T]) below(i int, seen map[int]bool) map[int]bool {
	if w.shown(w.bare[i]) {
		for k := w.from[i]; k < w.to[i]; k++ {
			if !seen[k] {
				seen[k] = true
				w.below(k, seen)
			}
		}
	}
	return seen
}

// selves tells which stand in themselves: those in which one stands that is shown alike.
func (w web[T]) selves() []bool {
	kinds, is := w.kinds(false, w.told), make([]bool, len(w.bare))
	for i := range w.bare {
		for k := range w.below(i, map[int]bool{}) {
			is[i] = is[i] || kinds[k] == kinds[i]
		}
	}
	return is
}

// finite is one of them with nothing in what stands in itself: so it has a text that ends.
func (w web[T]) finite(i int, selves []bool) T {
	whole := w.bare[i]
	if !selves[i] && w.shown(whole) {
		var l []T
		for k := w.from[i]; k < w.to[i]; k++ {
			l = append(l, w.finite(k, selves))
		}
		w.put(&whole, l)
	}
	return whole
}

// both is two webs in one.
func (w web[T]) both(other web[T]) web[T] {
	all := web[T]{w.sort, slices.Concat(w.bare, other.bare), slices.Clone(w.from), slices.Clone(w.to)}
	for i := range other.bare {
		all.from, all.to = append(all.from, other.from[i]+len(w.bare)), append(all.to, other.to[i]+len(w.bare))
	}
	return all
}

// unrolled is the same as one, with lists of its own that deep.
func unrolled[T any](s *sort[T], one T, deep int) T {
	l := slices.Clone(s.inner(one))
	for i := range l {
		if deep > 0 {
			l[i] = unrolled(s, l[i], deep-1)
		}
	}
	s.put(&one, l)
	return one
}

// ends fails, unless a call is done in a minute.
func ends(t *testing.T, what string, call func()) {
	t.Helper()
	done := make(chan bool, 1)
	go func() {
		defer close(done)
		call()
	}()
	select {
	case <-done:
	case <-time.After(time.Minute):
		t.Fatalf("%s has not ended", what)
	}
}

// checkWeb fails, unless what is told of each one of a web is as the tests tell it; how many of them stand in themselves, and how many lead to such a one alone.
func checkWeb[T any](t *testing.T, w web[T]) (int, int) {
	t.Helper()
	l, selves, themselves, lead := w.made(), w.selves(), 0, 0
	for i, one := range l {
		want := w.told(w.finite(i, selves))
		for deep := range 4 {
			alike := unrolled(w.sort, one, deep)
			is(t, w.show(alike), want)
			checkSame(t, w.in(alike), w.in(one), true)
		}
		is(t, w.show(one), want)
		is(t, w.show(w.made()[i]), want)
		is(t, show.Rule(w.in(one).Rules[0])+"\n", show.Show(w.in(one)))
		if !strings.Contains(show.Show(w.in(one)), want) {
			t.Fatalf("%s is not in %s", want, show.Show(w.in(one)))
		}
		if selves[i] {
			themselves++
		} else if slices.ContainsFunc(slices.Collect(maps.Keys(w.below(i, map[int]bool{}))), func(k int) bool { return selves[k] }) {
			lead++
		}
	}
	return themselves, lead
}
