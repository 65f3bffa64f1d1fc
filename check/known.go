package check

import (
	"tribunal/api"
	"tribunal/schema"
)

// known is what is known: variables, each once, in the order in which they came to be known, and each one's place. Templates are a schema's.
type known struct {
	schema *schema.Schema
	list   []api.Known
	places map[string]int
}

// know is that those are known; of two of one name the first one is.
func know(s *schema.Schema, l ...api.Known) *known {
	k := &known{schema: s, places: map[string]int{}}
	for _, v := range l {
		k.come(v)
	}
	return k
}

// find is what is known of a variable; false: nothing is.
func (k *known) find(name string) (api.Known, bool) {
	i, is := k.places[name]
	if !is {
		return api.Known{}, false
	}
	return k.list[i], true
}

func (k *known) has(name string) bool {
	_, is := k.find(name)
	return is
}

// come makes a variable known behind all others, if it is not.
func (k *known) come(v api.Known) api.Errno {
	if k.has(v.Name) {
		return api.ErrThere
	}
	k.places[v.Name] = len(k.list)
	k.list = append(k.list, v)
	return api.OK
}

// forget leaves as many of the first ones known as are wanted, and no others.
func (k *known) forget(wanted int) {
	for _, v := range k.list[wanted:] {
		delete(k.places, v.Name)
	}
	k.list = k.list[:wanted]
}
