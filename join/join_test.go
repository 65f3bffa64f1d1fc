package join_test

import (
	"slices"
	"strings"
	"testing"

	"tribunal/api"
	"tribunal/bind"
	"tribunal/join"
)

// P16.1 (P2): a new node makes nothing, and holds none; nothing goes.
func TestNew(t *testing.T) {
	b := node(t)
	b.makes(0)
	for _, one := range ladder() {
		b.call("left", drop(one))
		b.call("right", drop(one))
	}
	b.makes(0)
}

// P16.1 (P3): one row alone makes nothing, whatever comes and goes.
func TestOneRow(t *testing.T) {
	for _, side := range []string{"left", "right"} {
		b := node(t)
		for i, one := range ladder() {
			b.call(side, put(one))
			b.makes(i + 1)
			b.call(side, put(one))
			b.makes(i + 1)
		}
		for i, one := range ladder() {
			b.call(side, drop(one))
			b.call(side, drop(one))
			b.makes(len(ladder()) - i - 1)
		}
	}
}

// P16.1 (P2, P3): two that agree make one, told as the later one comes, and as the first one goes.
func TestAgree(t *testing.T) {
	for _, c := range []struct{ left, right, made string }{
		{"x=1 #1", "x=1 #2", "x=1 #1 #2"},
		{"x=1 #2", "x=1 #1", "x=1 #2 #1"},
		{"x=1 y='a #1", "y='a z=true #2", "x=1 y='a z=true #1 #2"},
		{"y='a z=true #1", "x=1 y='a #2", "x=1 y='a z=true #1 #2"},
		{"a=1 c=3 e=5 #1 #2", "b=2 c=3 d=4 f=6 #3 #4", "a=1 b=2 c=3 d=4 e=5 f=6 #1 #2 #3 #4"},
		{"x=1 #1", "y=1 #2", "x=1 y=1 #1 #2"},
		{"y=1 #1", "x=1 #2", "x=1 y=1 #1 #2"},
		{"x=1 #1", "x1=2 #2", "x=1 x1=2 #1 #2"},
		{"x=none #1", "x=none #2", "x=none #1 #2"},
		{"x={1} #1", "x={1} #2", "x={1} #1 #2"},
		{"", "", ""},
		{"", "x=1 #1", "x=1 #1"},
		{"x=1 #1", "", "x=1 #1"},
		{"x=1", "y=2", "x=1 y=2"},
		{"x=1", "x=1", "x=1"},
		{"#1", "#2", "#1 #2"},
		{"#2", "#1", "#2 #1"},
		{"#1", "#1", "#1 #1"},
		{"#1 #2", "#1 #2", "#1 #2 #1 #2"},
		{"x=1 #3 #3", "x=1 #3", "x=1 #3 #3 #3"},
		{"x=1 #1", "x=1 #1", "x=1 #1 #1"},
	} {
		b := node(t)
		b.do("left +" + c.left)
		b.makes(1)
		b.do("right +"+c.right, "+"+c.made)
		b.makes(2, c.made)
		b.do("left -"+c.left, "-"+c.made)
		b.makes(1)
		b.do("left +"+c.left, "+"+c.made)
		b.makes(2, c.made)
		b.do("right -"+c.right, "-"+c.made)
		b.makes(1)
		b.do("right +"+c.right, "+"+c.made)
		b.do("right -"+c.right, "-"+c.made)
		b.do("left -" + c.left)
		b.makes(0)
		b.do("right +" + c.right)
		b.do("left +"+c.left, "+"+c.made)
		b.makes(2, c.made)
	}
}

// P16.1 (P2, P3): two with a variable of unlike values make nothing, nor where others of theirs are alike, nor where just the kinds are unlike.
func TestDisagree(t *testing.T) {
	for _, c := range [][2]string{
		{"x=1", "x=2"}, {"x=1 #1", "x=2 #1"}, {"x=1 y=2 #1", "x=1 y=3 #2"}, {"x=1 y=2 #1", "x=2 y=2 #2"}, {"a=1 x=1 #1", "x=2 z=1 #2"}, {"x=1 z=1 #1", "a=1 x=2 #2"},
		{"x=1 #1", `x="1" #2`}, {"x=1 #1", "x=#1 #2"}, {"x=#1 #1", "x={1} #2"}, {"x='true #1", "x=true #2"}, {`x="a" #1`, "x='a #2"}, {"x=none #1", `x="" #2`}, {"x={} #1", `x="" #2`}, {"x=none #1", "x='none #2"}, {"x=1 #1", "x=10 #2"}, {"x=none #1", "x=1 #2"},
		{"a=1 b=2 c=3 d=4 #1", "a=1 b=2 c=3 d=5 #1"}, {"d=4", "a=1 b=2 c=3 d=5 e=6"},
	} {
		for range 2 {
			b := node(t)
			b.do("left +" + c[0])
			b.do("right +" + c[1])
			b.makes(2)
			b.do("left -" + c[0])
			b.do("left +" + c[0])
			b.do("right -" + c[1])
			b.makes(1)
			b.do("left -" + c[0])
			b.makes(0)
			c[0], c[1] = c[1], c[0]
		}
	}
}

// P16.1 (P3): where Take says false nothing is told, and nothing changes, though others agree.
func TestNothingTaken(t *testing.T) {
	b := node(t)
	b.do("left +x=1 #1")
	b.do("right +x=1 #2", "+x=1 #1 #2")
	for range 3 {
		b.do("left +x=1 #1")
		b.do("right +x=1 #2")
		b.do("left -x=1 #2")
		b.do("right -x=1 #1")
		b.do("left -x=1")
		b.do("right -x=1 #1 #2")
		b.do("left -")
		b.do("right -")
		b.makes(2, "x=1 #1 #2")
	}
	b.do("left -x=1 #1", "-x=1 #1 #2")
	b.do("left -x=1 #1")
	b.makes(1)
}

// P16.1 (P3): what is told goes in the order of the other memory's All, which is not the order of what is made.
func TestOrderTold(t *testing.T) {
	b := node(t)
	for _, s := range []string{"y=9 #3", "#7", "x=1 #1 #2", "y=2 #1", "x=2 #2", "x=1 #1", "y=10", "", "y='a"} {
		b.do("right +" + s)
	}
	// RIGHT's All: "", y=10, y='a, x=1 #1, y=2 #1, x=1 #1 #2, x=2 #2, y=9 #3, #7.
	b.do("left +x=1 #5", "+x=1 #5", "+x=1 y=10 #5", "+x=1 y='a #5", "+x=1 #5 #1", "+x=1 y=2 #5 #1", "+x=1 #5 #1 #2", "+x=1 y=9 #5 #3", "+x=1 #5 #7")
	b.do("left -x=1 #5", "-x=1 #5", "-x=1 y=10 #5", "-x=1 y='a #5", "-x=1 #5 #1", "-x=1 y=2 #5 #1", "-x=1 #5 #1 #2", "-x=1 y=9 #5 #3", "-x=1 #5 #7")
	b = node(t)
	for _, s := range []string{"z=2", "x=1 #2", "b=1 #1", "a=2 #1", "z=10", ""} {
		b.do("left +" + s)
	}
	b.do("right +b=1 y=0 #1", "+b=1 y=0 #1", "+b=1 y=0 z=2 #1", "+b=1 y=0 z=10 #1", "+a=2 b=1 y=0 #1 #1", "+b=1 y=0 #1 #1", "+b=1 x=1 y=0 #2 #1")
	b.do("right -b=1 y=0 #1", "-b=1 y=0 #1", "-b=1 y=0 z=2 #1", "-b=1 y=0 z=10 #1", "-a=2 b=1 y=0 #1 #1", "-b=1 y=0 #1 #1", "-b=1 x=1 y=0 #2 #1")
	// By the variables of what is made, a=3 stands ahead of b=1; by RIGHT's All, b=1 stands ahead of c=0.
	b = node(t)
	b.do("right +c=0")
	b.do("right +a=3 c=0 z=1")
	b.do("right +b=1")
	b.do("left +a=3", "+a=3 c=0 z=1", "+a=3 b=1", "+a=3 c=0")
	b.makes(4, "a=3 b=1", "a=3 c=0", "a=3 c=0 z=1")
}

// P16.1 (P2, P3): the facts of a left one stand ahead of those of a right one, whichever came first, and whichever are the greater ones.
func TestFactsOrder(t *testing.T) {
	for _, c := range [][3]string{{"x=1 #9", "x=1 #1", "x=1 #9 #1"}, {"x=1 #1", "x=1 #9", "x=1 #1 #9"}, {"#3 #1", "#2", "#3 #1 #2"}, {"#2", "#3 #1", "#2 #3 #1"}} {
		b := node(t)
		b.do("left +" + c[0])
		b.do("right +"+c[1], "+"+c[2])
		b.do("left -"+c[0], "-"+c[2])
		b.do("left +"+c[0], "+"+c[2])
		b.do("right -"+c[1], "-"+c[2])
		b.makes(1)
	}
}

// P16.1 (P1, P3): the same tuple may stand on the left and on the right; the one's going leaves the other one there.
func TestSameTuple(t *testing.T) {
	for _, one := range ladder() {
		twice := line(api.Tuple{Binds: one.Binds, Ids: slices.Concat(one.Ids, one.Ids)})
		b := node(t)
		b.call("left", put(one))
		b.call("left", put(one))
		b.makes(1)
		b.call("right", put(one), "+"+twice)
		b.makes(2, twice)
		b.call("left", drop(one), "-"+twice)
		b.call("left", drop(one))
		b.makes(1)
		b.call("left", put(one), "+"+twice)
		b.call("right", drop(one), "-"+twice)
		b.call("right", drop(one))
		b.call("left", drop(one))
		b.makes(0)
	}
}

// P16.1 (P2), P16.2: equal tuples that unlike pairs make are told each, and All has one for each pair.
func TestEqualOfUnlikePairs(t *testing.T) {
	b := node(t)
	b.do("left +x=1 #1")
	b.do("left +x=1 #1 #2")
	b.do("right +y=2 #2 #3", "+x=1 y=2 #1 #2 #3", "+x=1 y=2 #1 #2 #2 #3")
	b.do("right +y=2 #3", "+x=1 y=2 #1 #3", "+x=1 y=2 #1 #2 #3")
	b.makes(4, "x=1 y=2 #1 #2 #2 #3", "x=1 y=2 #1 #2 #3", "x=1 y=2 #1 #2 #3", "x=1 y=2 #1 #3")
	b.do("left -x=1 #1", "-x=1 y=2 #1 #2 #3", "-x=1 y=2 #1 #3")
	b.makes(3, "x=1 y=2 #1 #2 #2 #3", "x=1 y=2 #1 #2 #3")
	b.do("left +x=1 #1", "+x=1 y=2 #1 #2 #3", "+x=1 y=2 #1 #3")
	b.do("right -y=2 #3", "-x=1 y=2 #1 #3", "-x=1 y=2 #1 #2 #3")
	b.makes(3, "x=1 y=2 #1 #2 #2 #3", "x=1 y=2 #1 #2 #3")

	b = node(t)
	b.do("left +x=1")
	b.do("left +")
	b.do("right +", "+", "+x=1")
	b.do("right +x=1", "+x=1", "+x=1")
	b.makes(4, "", "x=1", "x=1", "x=1")
	b.do("left -x=1", "-x=1", "-x=1")
	b.makes(3, "", "x=1")
	b.do("right -", "-")
	b.makes(2, "x=1")

	b = node(t)
	for _, s := range []string{"", "#1", "#1 #1", "#1 #1 #1"} {
		b.do("left +" + s)
	}
	b.do("right +#1 #1", "+#1 #1", "+#1 #1 #1", "+#1 #1 #1 #1", "+#1 #1 #1 #1 #1")
	b.do("right +#1", "+#1", "+#1 #1", "+#1 #1 #1", "+#1 #1 #1 #1")
	b.do("right +", "+", "+#1", "+#1 #1", "+#1 #1 #1")
	b.makes(7, "", "#1", "#1", "#1 #1", "#1 #1", "#1 #1", "#1 #1 #1", "#1 #1 #1", "#1 #1 #1", "#1 #1 #1 #1", "#1 #1 #1 #1", "#1 #1 #1 #1 #1")
}

// P16.1 (P3): a tuple that is told as an Add by its one text, and taken for another by none: texts that have what stands between parts.
func TestPartsOfNode(t *testing.T) {
	l := []api.Tuple{bound("x", text("1 #1")), bound("x", text("1"), 1), bound("x", text("1 y=1")), tuple(`x="1" y=1`), bound("x", text("#1"), 1), tuple("x=#1 #1"), tuple("x=#1")}
	b := node(t)
	for _, one := range l {
		b.left(put(one))
	}
	for i, one := range l {
		want := 0
		for _, other := range l {
			if _, is := bind.Merge(other, one); is {
				want++
			}
		}
		if got := b.right(put(one)); len(got) != want {
			t.Errorf("%d: got %s", i, brief(told(got)))
		}
	}
	if b.n.Held() != 2*len(l) {
		t.Errorf("got %d", b.n.Held())
	}
}

// P16.1 (P1), P16.3: with all gone, nothing is made, and none is held.
func TestAllGone(t *testing.T) {
	m := newMaker(6)
	for range 30 {
		b := node(t)
		for range 60 {
			m.step(b)
		}
		for _, one := range slices.Clone(b.m.left.l) {
			b.left(drop(one))
		}
		if len(b.last) > 0 {
			t.Fatalf("%s", brief(lines(b.last)))
		}
		for _, one := range slices.Clone(b.m.right.l) {
			if got := b.right(drop(one)); len(got) > 0 {
				t.Fatalf("got %s", brief(told(got)))
			}
		}
		b.makes(0)
		b.do("left +x=1 #1")
		b.do("right +x=1 #2", "+x=1 #1 #2")
		b.makes(2, "x=1 #1 #2")
	}
}

// P16.1: the document's example: x=1 and x=2 make nothing.
func TestExample(t *testing.T) {
	b := node(t)
	b.do("left +x=1")
	b.do("right +x=2")
	b.makes(2)
}

// P1: calls with tuples that are not right end, and do not panic; of right ones alone all is told as ever, once the others are gone.
func TestWrongCalls(t *testing.T) {
	n := join.New()
	for _, add := range []bool{true, true, false, false} {
		for _, one := range append(wrong(), ladder()...) {
			n.Left(api.Delta{Add: add, T: one})
			n.Right(api.Delta{Add: add, T: one})
		}
		n.All()
		n.Held()
	}
	if l := n.All(); len(l) > 0 || n.Held() > 0 {
		t.Fatalf("got %s, %d", brief(lines(l)), n.Held())
	}
}

// P1: that goes on to be so for tuples of any bytes and numbers, on both sides.
func TestStrangeCalls(t *testing.T) {
	m, n := newMaker(7), join.New()
	for range 600 {
		var one api.Tuple
		for range m.Intn(4) {
			one.Binds = append(one.Binds, api.Bind{Name: pick(m, "x", "y", "", "x=", "Y", "\x00"), V: value(m.Intn(9)-1, pick(m, "", "1", "x", "1, 0", "\"", strings.Repeat("9", 400)))})
		}
		for range m.Intn(4) {
			one.Ids = append(one.Ids, m.Intn(5)-2)
		}
		d := api.Delta{Add: m.Intn(5) < 2, T: one}
		n.Left(d)
		n.Right(api.Delta{Add: !d.Add, T: one})
		if m.Intn(20) == 0 {
			n.All()
		}
	}
	if n.Held() == 0 {
		t.Error("none is held")
	}
}
