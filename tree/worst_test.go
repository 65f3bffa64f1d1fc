package tree_test

import (
	"slices"
	"strconv"
	"testing"

	"tribunal/api"
	"tribunal/tree"
)

// P5.4: always the one taken out that leaves the tree deepest for what it has, of several one or another: so trees come about that are as deep as calls can make them.
func TestFlatAtWorst(t *testing.T) {
	r := newValues(17)
	for _, n := range []int{7, 12, 20, 33, 54} {
		all := symbols(n)
		checkThinned(t, r, all)
		checkThinned(t, r, reversed(all))
		for range 4 {
			checkThinned(t, r, r.mixed(all))
		}
	}
}

// symbols is n symbols, in order.
func symbols(n int) []api.Value {
	l := make([]api.Value, n)
	for i := range l {
		l[i] = sym("s" + strconv.Itoa(100+i))
	}
	return l
}

// checkThinned fails, unless a tree stays flat while always the one is taken out that leaves it deepest.
func checkThinned(t *testing.T, r values, in []api.Value) {
	t.Helper()
	var out []api.Value
	left := slices.Clone(in)
	for len(left) > 0 {
		worst, deepest := 0, -1
		left = r.mixed(left)
		for i, v := range left {
			own := made(in, append(slices.Clip(out), v))
			checkSizes(t, own, len(left)-1, len(left)-1)
			if own.Deep() > deepest {
				worst, deepest = i, own.Deep()
			}
		}
		out = append(out, left[worst])
		left = slices.Delete(left, worst, worst+1)
	}
}

// made is a tree of those that were put in, less those taken out.
func made(in, out []api.Value) *tree.Tree {
	own := tree.New()
	for _, v := range in {
		own.Add(v)
	}
	for _, v := range out {
		own.Del(v)
	}
	return own
}
