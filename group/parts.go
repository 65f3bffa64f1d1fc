package group

import (
	"slices"
	"strings"

	"tribunal/api"
	"tribunal/fold"
)

// group is what is folded of those tuples that count, and have one key. What comes of it is kept, as working that out may go through all that is in.
type group struct {
	*fold.Fold
	key   api.Tuple
	comes api.Value
}

// begin is the group of a key, of no tuples.
func begin(kind int, key api.Tuple) *group {
	f := fold.New(kind)
	return &group{Fold: f, key: key, comes: f.Result()}
}

// take puts a value in, or takes it out. What the fold does not take does not count, and changes nothing: to sums and averages that is all but numbers.
func (g *group) take(add bool, v api.Value) {
	change := g.Del
	if add {
		change = g.Add
	}
	if change(v) {
		g.comes = g.Result()
	}
}

// read is a tuple's key, and what is to be folded of it; false: it lacks one of the variables.
func (n *Node) read(t api.Tuple) (api.Tuple, api.Value, bool) {
	folded, has := find(t.Binds, n.arg)
	if !has {
		return api.Tuple{}, api.Value{}, false
	}
	var key api.Tuple
	for _, name := range n.by {
		v, has := find(t.Binds, name)
		if !has {
			return api.Tuple{}, api.Value{}, false
		}
		key.Binds = append(key.Binds, api.Bind{Name: name, V: v})
	}
	return key, folded, true
}

// find is a variable's value, of names that rise; false: it has none.
func find(l []api.Bind, name string) (api.Value, bool) {
	at, is := slices.BinarySearchFunc(l, name, func(b api.Bind, name string) int { return strings.Compare(b.Name, name) })
	if !is {
		return api.Value{}, false
	}
	return l[at].V, true
}
