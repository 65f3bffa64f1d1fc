package fold

import (
	"strconv"

	"tribunal/api"
	"tribunal/rat"
	"tribunal/tree"
	"tribunal/value"
)

// kind is one of folds: its number and name, which of the right values it takes, and what comes of those that are in.
type kind struct {
	number int
	name   string
	takes  func(api.Value) bool
	tells  func(*tree.Tree) api.Value
}

// kinds is all that there are.
func kinds() []kind {
	all := func(api.Value) bool { return true }
	nums := func(v api.Value) bool { return v.Kind == api.Num }
	return []kind{
		{api.FoldCount, "count", all, num(many)},
		{api.FoldSum, "sum", nums, num((*tree.Tree).Sum)},
		{api.FoldMin, "min", all, first},
		{api.FoldMax, "max", all, last},
		{api.FoldAvg, "avg", nums, num(average)},
		{api.FoldSet, "set", all, set},
	}
}

// find is the kind that is so; a zero one: there is none.
func find(so func(kind) bool) kind {
	for _, k := range kinds() {
		if so(k) {
			return k
		}
	}
	return kind{}
}

// numbered is the kind of a number; a zero one: there is none.
func numbered(number int) kind {
	return find(func(k kind) bool { return k.number == number })
}

// num tells a Num of a number's text; None, if there is an error, or a Num has no room for it.
func num(text func(*tree.Tree) (string, api.Errno)) func(*tree.Tree) api.Value {
	return func(t *tree.Tree) api.Value {
		s, err := text(t)
		v := api.Value{Kind: api.Num, S: s}
		if err != api.OK || !value.Right(v) {
			return api.Value{}
		}
		return v
	}
}

func many(t *tree.Tree) (string, api.Errno) { return strconv.Itoa(t.Many()), api.OK }

// average is the sum, by how many there are; of none that is an error. (A sum may be longer than a Num, where the average is one.)
func average(t *tree.Tree) (string, api.Errno) {
	sum, err := t.Sum()
	if err != api.OK {
		return "", err
	}
	return rat.Div(sum, strconv.Itoa(t.Many()))
}

// first is the least one; None of none, as At then has no value.
func first(t *tree.Tree) api.Value {
	v, _ := t.At(0)
	return v
}

// last is the greatest one; None of none, as At then has no value.
func last(t *tree.Tree) api.Value {
	v, _ := t.At(t.Many() - 1)
	return v
}

// set is that of all; as it has each one once, the unlike ones do.
func set(t *tree.Tree) api.Value { return value.SetOf(t.List()) }
