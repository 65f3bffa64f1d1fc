package nat_test

import (
	"slices"
	"testing"

	"tribunal/nat"
)

// calls is each call of two lists: what it answers, as lists.
func calls() map[string]func(a, b []uint32) [][]uint32 {
	return map[string]func(a, b []uint32) [][]uint32{
		"Of":   func(a, b []uint32) [][]uint32 { return [][]uint32{nat.Of(uint64(len(a))<<32 + 1)} },
		"Norm": func(a, b []uint32) [][]uint32 { return [][]uint32{nat.Norm(a), nat.Norm(b)} },
		"Cmp":  func(a, b []uint32) [][]uint32 { return [][]uint32{nat.Of(uint64(nat.Cmp(a, b) + 1))} },
		"Add":  func(a, b []uint32) [][]uint32 { return [][]uint32{nat.Add(a, b)} },
		"Sub":  func(a, b []uint32) [][]uint32 { d, _ := nat.Sub(a, b); return [][]uint32{d} },
		"Mul":  func(a, b []uint32) [][]uint32 { return [][]uint32{nat.Mul(a, b)} },
		"Div":  func(a, b []uint32) [][]uint32 { q, r, _ := nat.Div(a, b); return [][]uint32{q, r} },
		"Gcd":  func(a, b []uint32) [][]uint32 { return [][]uint32{nat.Gcd(a, b)} },
	}
}

// roomy is a list with spare room, whose limbs there are not 0.
func roomy(a []uint32) []uint32 {
	l := append(slices.Clone(a), 11, 22, 33, 44)
	return l[:len(a)]
}

// spoil writes over a list, and its spare room.
func spoil(l []uint32) {
	l = l[:cap(l)]
	for i := range l {
		l[i] = 0xdeadbeef
	}
}

// pairs is lists at the edges, and some longer ones.
func pairs() [][2][]uint32 {
	var all [][2][]uint32
	few := append(edges(1), []uint32{0, 0, 0}, []uint32{5, 0}, []uint32{0, 0, 4}, []uint32{3, top, top, 0})
	for _, a := range few {
		for _, b := range few {
			all = append(all, [2][]uint32{a, b})
		}
	}
	r := newNumbers(9)
	for range 300 {
		all = append(all, [2][]uint32{r.upTo(20), r.upTo(10)})
	}
	return all
}

// P3: what is handed in is not changed, nor its spare room; nor is it kept, nor what was answered.
func TestArgumentsStay(t *testing.T) {
	for name, call := range calls() {
		for _, p := range pairs() {
			a, b := roomy(p[0]), roomy(p[1])
			first := call(a, b)
			if !slices.Equal(a[:cap(a)], roomy(p[0])[:cap(a)]) || !slices.Equal(b[:cap(b)], roomy(p[1])[:cap(b)]) {
				t.Fatalf("%s(%v, %v) has changed them", name, p[0], p[1])
			}
			told := copies(first)
			for _, l := range first {
				spoil(l)
			}
			if !slices.Equal(a[:cap(a)], roomy(p[0])[:cap(a)]) || !slices.Equal(b[:cap(b)], roomy(p[1])[:cap(b)]) {
				t.Fatalf("%s(%v, %v) answers memory of theirs", name, p[0], p[1])
			}
			if again := call(a, b); !slices.EqualFunc(again, told, slices.Equal) {
				t.Fatalf("%s(%v, %v): first %v, then %v", name, p[0], p[1], told, again)
			}
		}
	}
}

func copies(lists [][]uint32) [][]uint32 {
	var out [][]uint32
	for _, l := range lists {
		out = append(out, slices.Clone(l))
	}
	return out
}

// P3: what is answered does not change with what was handed in, nor with another list of one answer.
func TestAnswersStay(t *testing.T) {
	for name, call := range calls() {
		for _, p := range pairs() {
			a, b := roomy(p[0]), roomy(p[1])
			lists := call(a, b)
			told := copies(lists)
			spoil(a)
			spoil(b)
			for i, l := range lists {
				if !slices.Equal(l, told[i]) {
					t.Fatalf("%s(%v, %v): list %d is not its own", name, p[0], p[1], i)
				}
				spoil(l)
			}
		}
	}
}

// P3: one list may be handed in twice.
func TestSameList(t *testing.T) {
	r := newNumbers(10)
	for range 500 {
		a := roomy(r.upTo(9))
		checkPair(t, a, a)
		if len(a) > 0 {
			checkPair(t, a, a[:len(a)-1])
			checkPair(t, a[1:], a)
		}
	}
}
