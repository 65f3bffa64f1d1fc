package value

import (
	"slices"
	"strings"

	"tribunal/api"
)

// comma is what stands between members.
const comma = ", "

// SetOf is the set of those of l that are right, and no sets, each once; a zero value, if it is too long.
func SetOf(l []api.Value) api.Value {
	own, fit := members(l)
	if !fit {
		return api.Value{}
	}
	slices.SortFunc(own, Cmp)
	texts := make([]string, len(own))
	for i, v := range own {
		texts[i] = written(v)
	}
	return api.Value{Kind: api.Set, S: strings.Join(texts, comma)}
}

// members is those of l that a set may have, each once; false: they are too long for one. Few fit, so that a list of very many unlike ones is not gone through to its end.
func members(l []api.Value) ([]api.Value, bool) {
	var own []api.Value
	seen := make(map[api.Value]int)
	size := -len(comma)
	for _, v := range l {
		if seen[v] > 0 || !single(v) {
			continue
		}
		seen[v]++
		own = append(own, v)
		size += len(comma) + len(written(v))
		if size > api.MaxSet {
			return nil, false
		}
	}
	return own, true
}

// Members is the members of a right set, in order; false: v is none.
func Members(v api.Value) ([]api.Value, bool) {
	if v.Kind != api.Set {
		return nil, false
	}
	return split(v.S)
}

// split is the members that a set's text writes; false: it is no right set's.
func split(s string) ([]api.Value, bool) {
	if len(s) > api.MaxSet {
		return nil, false
	}
	var l []api.Value
	for _, piece := range pieces(s) {
		v, err := readAs(piece, single)
		if err != api.OK || len(l) > 0 && Cmp(l[len(l)-1], v) >= 0 {
			return nil, false
		}
		l = append(l, v)
	}
	return l, true
}

// pieces is what stands between the commas of s that are in no text.
func pieces(s string) []string {
	if s == "" {
		return nil
	}
	quotes := 0
	between := func(i int) bool {
		if s[i] == quote {
			quotes++
		}
		return quotes%2 == 0 && strings.HasPrefix(s[i:], comma)
	}
	var l []string
	from := 0
	for i := range len(s) {
		if between(i) {
			l = append(l, s[from:i])
			from = i + len(comma)
		}
	}
	return append(l, s[from:])
}
