package bind

import (
	"slices"
	"strconv"

	"tribunal/api"
	"tribunal/schema"
)

// With is t with a variable's value, on the same facts; false: the variable has another one.
func With(t api.Tuple, name string, v api.Value) (api.Tuple, bool) {
	return Merge(t, api.Tuple{Binds: []api.Bind{{Name: name, V: v}}})
}

// Merge is two tuples in one, on the facts of both; false: a variable has another value in each.
func Merge(a api.Tuple, b api.Tuple) (api.Tuple, bool) {
	binds, is := together(a.Binds, b.Binds, byName)
	if !is {
		return api.Tuple{}, false
	}
	return api.Tuple{Binds: binds, Ids: slices.Concat(a.Ids, b.Ids)}, true
}

// Match is what a fact makes of a pattern, and of a variable for the fact's number (of none, if as is empty); false: it makes nothing of these.
func Match(s *schema.Schema, p api.Pat, as string, f api.Fact) (api.Tuple, bool) {
	if f.Tmpl != p.Tmpl || s.Fits(f.Tmpl, f.Vals) != api.OK {
		return api.Tuple{}, false
	}
	asked, is := slots(s, p, f.Vals)
	if !is {
		return api.Tuple{}, false
	}
	if as != "" {
		asked = append(asked, api.Bind{Name: as, V: api.Value{Kind: api.Id, S: strconv.Itoa(f.Id)}})
	}
	// All are put in order at once, as a pattern that is not right may ask for very many.
	binds, is := once(asked, byName)
	if !is {
		return api.Tuple{}, false
	}
	return api.Tuple{Binds: binds, Ids: []int{f.Id}}, true
}

// slots is the values that a pattern's variables have by a fact's values, slot by slot; false: one is no slot, or the fact has another value there.
func slots(s *schema.Schema, p api.Pat, vals []api.Value) ([]api.Bind, bool) {
	var l []api.Bind
	for _, slot := range p.Slots {
		place, is := s.Slot(p.Tmpl, slot.Name)
		if !is {
			return nil, false
		}
		if slot.T.Var != "" {
			l = append(l, api.Bind{Name: slot.T.Var, V: vals[place]})
		} else if slot.T.V != vals[place] {
			return nil, false
		}
	}
	return l, true
}
