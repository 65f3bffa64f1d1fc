package agenda

import (
	"cmp"
	"container/heap"
	"slices"

	"tribunal/api"
	"tribunal/bind"
)

// rules is rules' saliences, by their places.
type rules []int

func (r rules) has(place int) bool { return 0 <= place && place < len(r) }

// ahead tells whether a stands ahead of b: both are of rules that there are.
func (r rules) ahead(a, b *task) bool {
	if r[a.Rule] != r[b.Rule] {
		return r[a.Rule] > r[b.Rule]
	}
	if c := slices.Compare(a.ids, b.ids); c != 0 {
		return c > 0
	}
	if a.Rule != b.Rule {
		return a.Rule < b.Rule
	}
	return bind.Cmp(a.T, b.T) < 0
}

// task is what is to be done: its facts' numbers, the greatest first, and where it stands among tasks.
type task struct {
	api.Change
	ids   []int
	place int
}

func newTask(c api.Change) *task {
	ids := slices.Clone(c.T.Ids)
	slices.SortFunc(ids, func(x, y int) int { return cmp.Compare(y, x) })
	return &task{Change: c, ids: ids}
}

// tasks is a heap: the first one stands ahead of all others.
type tasks struct {
	l     []*task
	ahead func(a, b *task) bool
}

func (t *tasks) Len() int { return len(t.l) }

func (t *tasks) Less(i, k int) bool { return t.ahead(t.l[i], t.l[k]) }

func (t *tasks) Swap(i, k int) {
	t.l[i], t.l[k] = t.l[k], t.l[i]
	t.l[i].place, t.l[k].place = i, k
}

func (t *tasks) Push(x any) {
	one := x.(*task)
	one.place = len(t.l)
	t.l = append(t.l, one)
}

func (t *tasks) Pop() any {
	last := len(t.l) - 1
	one := t.l[last]
	t.l[last] = nil // or spare room would keep it
	t.l = t.l[:last]
	return one
}

// take is the first one, which is there no more.
func (t *tasks) take() *task { return heap.Pop(t).(*task) }

// own is the same tasks in memory of their own; they have no places, as none is asked for.
func (t *tasks) own() *tasks {
	l := make([]*task, len(t.l))
	for i, one := range t.l {
		l[i] = &task{Change: own(one.Change), ids: one.ids}
	}
	return &tasks{l: l, ahead: t.ahead}
}

// own is a change with lists of its own.
func own(c api.Change) api.Change {
	c.T = api.Tuple{Binds: slices.Clone(c.T.Binds), Ids: slices.Clone(c.T.Ids)}
	return c
}
