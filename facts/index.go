package facts

import "tribunal/api"

// place is a value in a slot of a template.
type place struct {
	tmpl string
	slot int
	v    api.Value
}

// index is the numbers of the facts that have a value in a slot, for each place that a fact has.
type index map[place]map[int]struct{}

// put puts in a fact, at each of its places.
func (l index) put(x api.Fact) {
	for i, v := range x.Vals {
		p := place{x.Tmpl, i, v}
		if l[p] == nil {
			l[p] = map[int]struct{}{}
		}
		l[p][x.Id] = struct{}{}
	}
}

// drop takes out a fact that is in; a place that no other fact has goes too, or what was once would be kept for ever.
func (l index) drop(x api.Fact) {
	for i, v := range x.Vals {
		p := place{x.Tmpl, i, v}
		delete(l[p], x.Id)
		if len(l[p]) == 0 {
			delete(l, p)
		}
	}
}

// find is the numbers of the facts that have a place, in any order.
func (l index) find(p place) []int {
	var ids []int
	for id := range l[p] {
		ids = append(ids, id)
	}
	return ids
}
