package tree

import (
	"math/rand"
	"strconv"
	"testing"

	"tribunal/api"
)

// P5.4 (flat), for trees greater than any that can be tried for the worst: neither side of a node is deeper than the other one by more than one, whatever was put in and taken out.
func TestBalance(t *testing.T) {
	r := rand.New(rand.NewSource(1))
	for _, n := range []int{5, 20, 90, 400} {
		own := New()
		for turn := range 4 * n {
			if v := of(r.Intn(n)); turn%(2*n) < n {
				own.Add(v)
			} else {
				own.Del(v)
			}
			checkNodes(t, own.root)
		}
		for i := range n {
			own.Add(of(i))
			checkNodes(t, own.root)
		}
		for own.root != nil {
			own.Del(own.root.v)
			checkNodes(t, own.root)
		}
	}
}

func of(n int) api.Value { return api.Value{Kind: api.Num, S: strconv.Itoa(n)} }

// checkNodes fails, unless each node is balanced, and has the size that what stands below it makes.
func checkNodes(t *testing.T, root *node) {
	t.Helper()
	for n := range root.all {
		a, b := n.below[ahead].size(), n.below[behind].size()
		if a.deep-b.deep > 1 || b.deep-a.deep > 1 {
			t.Fatalf("below %s: deep %d, and %d", n.v.S, a.deep, b.deep)
		}
		if want := (size{a.many + n.times + b.many, a.kinds + 1 + b.kinds, max(a.deep, b.deep) + 1}); n.whole != want {
			t.Fatalf("at %s: got %v, want %v", n.v.S, n.whole, want)
		}
		if n.times < 1 {
			t.Fatalf("%s is in %d times", n.v.S, n.times)
		}
	}
}
