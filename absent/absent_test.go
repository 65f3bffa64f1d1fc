package absent_test

import (
	"math"
	"slices"
	"strings"
	"testing"

	"tribunal/absent"
	"tribunal/api"
	"tribunal/bind"
)

// ladder is right tuples, in order, no two alike, each near others: by their facts, their names, and their values' kinds.
func ladder() []api.Tuple {
	l := tuples("", "x=none", "x=0", "x=1", "x=1 x1=1", "x=1 y=1", "x=1 y=2", "x=9", "x=10")
	for _, s := range []string{"", "1", "1 #1", "1 y=1"} {
		l = append(l, bound("x", text(s)))
	}
	l = append(l, tuples("x='a", "x='true", "x=false", "x=true", "x=#1", "x=#9", "x=#10", "x={}", "x={1}")...)
	l = append(l, tuples("x1=1", "y=1")...)
	return append(l, tuples("#1", "x=1 #1", "y=1 #1", "#1 #1", "x=1 #1 #1", "#1 #1 #1", "#1 #1 #2", "#1 #2", "x=1 #1 #2", "#1 #2 #3", "#1 #3 #2", "#1 #12", "#2", "#2 #1", "x=1 #2 #1", "#2 #2", "#11", "#12", "#12 #3", "#123", "#999999999")...)
}

// P17.1 (Q1, Q2): a new node tells nothing, and holds none; nothing goes.
func TestNew(t *testing.T) {
	b := node(t)
	b.tells(0)
	for _, one := range ladder() {
		b.call("left", drop(one))
		b.call("right", drop(one))
	}
	b.tells(0)
}

// P17.1: the document's example: with nothing on the right all are told.
func TestExample(t *testing.T) {
	b := node(t)
	for _, one := range ladder() {
		b.left(put(one))
	}
	b.tells(len(ladder()), lines(ladder())...)
}

// P17.1 (Q2): with none on the right Left tells each tuple that comes and goes, whole, as it came or went; and nothing of one that is there already, or is not there.
func TestLeftAlone(t *testing.T) {
	b := node(t)
	for i, one := range ladder() {
		b.call("left", drop(one))
		b.call("left", put(one), "+"+line(one))
		b.tells(i+1, lines(ladder()[:i+1])...)
		b.call("left", put(ownTuple(one)))
		b.tells(i+1, lines(ladder()[:i+1])...)
	}
	for i, one := range ladder() {
		b.call("left", drop(ownTuple(one)), "-"+line(one))
		b.call("left", drop(one))
		b.tells(len(ladder())-i-1, lines(ladder()[i+1:])...)
	}
}

// P17.1 (Q1, Q2): the right row alone makes nothing, whatever comes and goes, but it is held.
func TestRightAlone(t *testing.T) {
	b := node(t)
	for i, one := range ladder() {
		b.call("right", put(one))
		b.tells(i + 1)
		b.call("right", put(one))
		b.tells(i + 1)
	}
	for i, one := range ladder() {
		b.call("right", drop(one))
		b.call("right", drop(one))
		b.tells(len(ladder()) - i - 1)
	}
}

// P17.1 (Q2): Left of an Add, and of no Add, with right ones of which none, one, several and all agree.
func TestLeftBesideRight(t *testing.T) {
	for _, c := range []struct {
		left  string
		right []string
		free  bool
	}{
		{"x=1 #1", []string{"x=2 #2"}, true},
		{"x=1 #1", []string{"x=2 #2", "x=3", "x='a y=1 #1"}, true},
		{"x=1 #1", []string{"x=1 #2"}, false},
		{"x=1 #1", []string{"x=2 #2", "x=1 #2", "x=3 #2"}, false},
		{"x=1 #1", []string{"x=2 #2", "x=1 #2", "x=1 #3", "x=1 y=7 #1"}, false},
		{"x=1 #1", []string{"x=1 #2", "x=1", "x=1 #1", "", "y=3 #9"}, false},
		{"x=1 y=2 #1 #2", []string{"x=1 y=3 #1", "x=2 y=2 #1"}, true},
		{"x=1 y=2 #1 #2", []string{"x=1 y=3 #1", "x=2 y=2 #1", "y=2 #1"}, false},
	} {
		b := node(t)
		for _, s := range c.right {
			b.do("right +" + s)
		}
		for range 3 {
			held := len(c.right)
			b.do("left -" + c.left)
			if !c.free {
				b.do("left +" + c.left)
				b.do("left +" + c.left)
				b.tells(held + 1)
				b.do("left -" + c.left)
			} else {
				b.do("left +"+c.left, "+"+c.left)
				b.do("left +" + c.left)
				b.tells(held+1, c.left)
				b.do("left -"+c.left, "-"+c.left)
			}
			b.do("left -" + c.left)
			b.tells(held)
		}
	}
}

// P17.1 (Q2): Right of an Add that agrees with none, with some and with all left ones: each is told once, in order, as no Add.
func TestRightComes(t *testing.T) {
	b := node(t)
	for _, s := range []string{"x=2 #3", "x=1 #2 #1", "x=3 #2", "x=1 #2", "x=1 y=1", "y=1"} {
		b.do("left +"+s, "+"+s)
	}
	b.do("right +x=4 y=2 #1")
	b.do("right +x=1 y=2", "-x=1 #2", "-x=1 #2 #1")
	b.do("right +x=1 y=2")
	b.tells(8, "x=1 y=1", "y=1", "x=3 #2", "x=2 #3")
	// Those that are held back already are not told again.
	b.do("right +x=1", "-x=1 y=1", "-y=1")
	b.do("right +x=1 #5")
	b.tells(10, "x=3 #2", "x=2 #3")
	b.do("right +", "-x=3 #2", "-x=2 #3")
	b.tells(11)
	b.do("right +")
	b.do("right +#1")
	b.tells(12)
}

// P17.1 (Q2): a right one that is there already is not counted twice: the first time that it goes, it is gone.
func TestRightTwice(t *testing.T) {
	b := node(t)
	b.do("left +x=1 #1", "+x=1 #1")
	b.do("right +x=1 #2", "-x=1 #1")
	for range 4 {
		b.do("right +x=1 #2")
	}
	b.tells(2)
	b.do("right -x=1 #2", "+x=1 #1")
	b.do("right -x=1 #2")
	b.tells(1, "x=1 #1")
	b.do("right +x=1 #2", "-x=1 #1")
}

// P17.1 (Q2): Right of no Add: of the only one that agrees with some, each is told, in order, as an Add; of one of two and of three that agree nothing is told, till the last of them goes; nor of one that is not there, and of one that agrees with none.
func TestRightGoes(t *testing.T) {
	for _, rights := range [][]string{{"x=1 #7"}, {"x=1 #7", "x=1 y=1"}, {"x=1 #7", "x=1 y=1", ""}, {"", "#1", "#2", "x=1", "x=1 y=1"}} {
		for _, order := range permutations(len(rights)) {
			b := node(t)
			for _, s := range []string{"x=1 y=1 #9", "x=1 #9", "y=1 #3", "#4 #1"} {
				b.do("left +"+s, "+"+s)
			}
			b.do("right +x=2 y=2", "-#4 #1")
			b.do("right -x=2 y=2", "+#4 #1")
			b.do("right +x=2 y=2", "-#4 #1")
			for _, s := range rights {
				b.right(put(tuple(s)))
			}
			for i, k := range order {
				b.do("right -x=1 #8")
				if i < len(order)-1 {
					b.do("right -" + rights[k])
				} else {
					b.do("right -"+rights[k], "+y=1 #3", "+x=1 #9", "+x=1 y=1 #9")
				}
				b.do("right -" + rights[k])
			}
			b.tells(5, "y=1 #3", "x=1 #9", "x=1 y=1 #9")
			b.do("right +x=5 y=5")
			b.do("right -x=5 y=5")
			b.tells(5, "y=1 #3", "x=1 #9", "x=1 y=1 #9")
		}
	}
}

// permutations is each order of that many.
func permutations(many int) [][]int {
	if many == 0 {
		return [][]int{nil}
	}
	var all [][]int
	for _, l := range permutations(many - 1) {
		for i := range many {
			all = append(all, slices.Insert(slices.Clone(l), i, many-1))
		}
	}
	return all
}

// P17.1 (Q2): right ones that hold back unlike parts of the left ones, come and gone in each order.
func TestUnlikeParts(t *testing.T) {
	lefts := []string{"x=1 y=1 #1", "x=1 y=2 #2", "x=2 y=1 #3", "x=2 y=2 #4", "x=3 y=3 #5"}
	rights := []string{"x=1", "y=1", "x=2 y=2", "x=3 #4"}
	for _, come := range permutations(len(rights)) {
		for _, goes := range permutations(len(rights)) {
			b := node(t)
			for _, s := range lefts {
				b.do("left +"+s, "+"+s)
			}
			for _, i := range come {
				b.right(put(tuple(rights[i])))
			}
			b.tells(9)
			for _, i := range goes {
				b.right(drop(tuple(rights[i])))
			}
			b.tells(5, lefts...)
		}
	}
}

// P17.1 (Q1, Q2): two that agree: by a common value, with no variable in common, without anything, and on the same facts.
func TestAgree(t *testing.T) {
	for _, c := range [][2]string{
		{"x=1 #1", "x=1 #2"}, {"x=1 #2", "x=1 #1"}, {"x=1 #1", "x=1 #1"}, {"x=1", "x=1"}, {"x=1 y='a #1", "y='a z=true #2"}, {"y='a z=true #1", "x=1 y='a #2"},
		{"a=1 c=3 e=5 #1 #2", "b=2 c=3 d=4 f=6 #3 #4"}, {"x=1 #1", "y=1 #2"}, {"y=1 #1", "x=1 #1"}, {"x=1 #1", "x1=2 #2"}, {"x1=1", "x=2"}, {"x=none #1", "x=none #2"}, {"x={1} #1", "x={1} #2"}, {"x=\"a\"", "x=\"a\" #2"}, {"x=#4", "x=#4"},
		{"", ""}, {"", "x=1 #1"}, {"x=1 #1", ""}, {"#1", "#2"}, {"#2", "#1"}, {"#1", "#1"}, {"#1 #2", "#1 #2"}, {"x=1 #3 #3", "x=1 #3"}, {"", "#1"}, {"#1", ""}, {"x=1", "#1"}, {"#1", "x=1"},
	} {
		left, right := c[0], c[1]
		b := node(t)
		b.do("left +"+left, "+"+left)
		b.do("right +"+right, "-"+left)
		b.tells(2)
		b.do("left -" + left)
		b.tells(1)
		b.do("left +" + left)
		b.tells(2)
		b.do("right -"+right, "+"+left)
		b.tells(1, left)
		b.do("left -"+left, "-"+left)
		b.tells(0)
		b.do("right +" + right)
		b.do("left +" + left)
		b.do("right -"+right, "+"+left)
		b.tells(1, left)
	}
}

// P17.1 (Q1, Q2): two with a variable of unlike values do not agree, nor where others of theirs are alike, nor where just the kinds are unlike.
func TestDisagree(t *testing.T) {
	for _, c := range [][2]string{
		{"x=1", "x=2"}, {"x=1 #1", "x=2 #1"}, {"x=1 y=2 #1", "x=1 y=3 #2"}, {"x=1 y=2 #1", "x=2 y=2 #2"}, {"a=1 x=1 #1", "x=2 z=1 #2"}, {"x=1 z=1 #1", "a=1 x=2 #2"},
		{"x=1 #1", `x="1" #2`}, {"x=1 #1", "x=#1 #2"}, {"x=#1 #1", "x={1} #2"}, {"x='true #1", "x=true #2"}, {`x="a" #1`, "x='a #2"}, {"x=none #1", `x="" #2`}, {"x={} #1", `x="" #2`}, {"x=none #1", "x='none #2"}, {"x=1 #1", "x=10 #2"}, {"x=none #1", "x=1 #2"},
		{"a=1 b=2 c=3 d=4 #1", "a=1 b=2 c=3 d=5 #1"}, {"d=4", "a=1 b=2 c=3 d=5 e=6"},
	} {
		for range 2 {
			left, right := c[0], c[1]
			b := node(t)
			b.do("left +"+left, "+"+left)
			b.do("right +" + right)
			b.tells(2, left)
			b.do("left -"+left, "-"+left)
			b.do("left +"+left, "+"+left)
			b.do("right -" + right)
			b.tells(1, left)
			b.do("left -"+left, "-"+left)
			b.tells(0)
			c[0], c[1] = right, left
		}
	}
}

// P17.1 (Q2): where Take says false nothing is told, and nothing changes, be the tuple told, held back, or none.
func TestNothingTaken(t *testing.T) {
	b := node(t)
	b.do("left +x=1 #1", "+x=1 #1")
	b.do("left +x=2 #1", "+x=2 #1")
	b.do("right +x=1 #2", "-x=1 #1")
	for range 3 {
		b.do("left +x=1 #1")
		b.do("left +x=2 #1")
		b.do("right +x=1 #2")
		b.do("left -x=1 #2")
		b.do("left -x=2")
		b.do("right -x=1 #1")
		b.do("right -x=2 #1")
		b.do("left -x=1 #1 #1")
		b.do("right -x=1")
		b.do("left -")
		b.do("right -")
		b.tells(3, "x=2 #1")
	}
	b.do("right -x=1 #2", "+x=1 #1")
	b.tells(2, "x=1 #1", "x=2 #1")
}

// P17.1 (Q1, Q2): the same tuple may stand on the left and on the right; the one's going leaves the other one there.
func TestSameTuple(t *testing.T) {
	for _, one := range ladder() {
		s, b := line(one), node(t)
		b.call("left", put(one), "+"+s)
		b.call("right", put(one), "-"+s)
		b.tells(2)
		b.call("left", drop(one))
		b.call("left", drop(one))
		b.tells(1)
		b.call("left", put(one))
		b.call("right", drop(one), "+"+s)
		b.call("right", drop(one))
		b.tells(1, s)
		b.call("left", drop(one), "-"+s)
		b.tells(0)
	}
}

// P17.1 (Q1, Q2): left tuples that are alike but for their facts, for the facts' order, or for how often a fact stands there, are told each for itself.
func TestUnlikeFacts(t *testing.T) {
	rows := [][]int{nil, {1}, {1, 1}, {1, 1, 1}, {1, 2}, {1, 2, 3}, {1, 3, 2}, {1, 23}, {2, 1}, {12}, {12, 3}, {21}, {123}, {999999999}, {math.MaxInt32}, {math.MaxInt32 + 1}, {1<<53 + 1}, {math.MaxInt}}
	for _, v := range []api.Value{num("1"), text("1 #1"), text("#1"), value(api.Id, "1"), value(api.Set, "#1")} {
		b := node(t)
		var want []string
		for _, ids := range rows {
			one := bound("x", v, ids...)
			b.call("left", put(one), "+"+line(one))
			b.call("left", put(one))
			want = append(want, line(one))
		}
		b.tells(len(rows), want...)
		b.call("right", put(bound("x", v, 7)), signed("-", want)...)
		b.call("left", drop(bound("x", v, 2, 1)))
		b.call("left", drop(bound("x", v, 3, 1, 2)))
		i := slices.Index(want, line(bound("x", v, 2, 1)))
		b.call("right", drop(bound("x", v, 7)), signed("+", slices.Delete(slices.Clone(want), i, i+1))...)
		b.call("left", drop(bound("x", v, 1, 2)), "-"+line(bound("x", v, 1, 2)))
	}
}

// P17.1 (Q2): right tuples that are alike but for their facts are counted each for itself.
func TestUnlikeFactsOnTheRight(t *testing.T) {
	b := node(t)
	b.do("left +x=1", "+x=1")
	rights := []string{"x=1 #1", "x=1 #1 #1", "x=1 #1 #2", "x=1 #2 #1", "x=1 #12", "x=1"}
	b.do("right +"+rights[0], "-x=1")
	for _, s := range rights[1:] {
		b.do("right +" + s)
	}
	for _, s := range rights[:len(rights)-1] {
		b.do("right -" + s)
		b.do("right -" + s)
	}
	b.do("right -"+rights[len(rights)-1], "+x=1")
}

// P17.1 (Q2): a left one that comes behind its right ones is told once the last of these goes.
func TestLeftBehindRight(t *testing.T) {
	b := node(t)
	for _, s := range []string{"x=1 #1", "x=1 #2", "y=1 #3", "x=2 #4"} {
		b.do("right +" + s)
	}
	b.do("left +x=1 y=1 #9")
	b.do("left +x=1 y=2 #8")
	b.tells(6)
	b.do("right -x=2 #4")
	b.do("right -x=1 #2")
	b.do("right -x=1 #1", "+x=1 y=2 #8")
	b.do("right -y=1 #3", "+x=1 y=1 #9")
	b.tells(2, "x=1 y=2 #8", "x=1 y=1 #9")
}

// P17.1 (Q2): a left one that goes while it is held back, and comes again when the right ones are still there, and when they are gone, or others are there.
func TestGoesHeldBack(t *testing.T) {
	b := node(t)
	b.do("left +x=1 #1", "+x=1 #1")
	b.do("right +x=1 #2", "-x=1 #1")
	b.do("right +x=1 #3")
	b.do("left -x=1 #1")
	b.tells(2)
	b.do("left +x=1 #1")
	b.tells(3)
	b.do("right -x=1 #2")
	b.do("right -x=1 #3", "+x=1 #1")
	b.do("right +x=1 #2", "-x=1 #1")
	b.do("left -x=1 #1")
	b.do("right -x=1 #2")
	b.tells(0)
	b.do("left +x=1 #1", "+x=1 #1")
	b.do("right +x=1 #2", "-x=1 #1")
	b.do("left -x=1 #1")
	b.do("right +x=1 #3")
	b.do("right -x=1 #2")
	b.do("left +x=1 #1")
	b.do("right +x=1 #4")
	b.do("right -x=1 #3")
	b.do("right -x=1 #4", "+x=1 #1")
}

// P17.1 (Q2): right ones that come and go with no left one there leave nothing that holds back.
func TestRightPasses(t *testing.T) {
	b := node(t)
	for range 3 {
		for _, s := range []string{"x=1 #1", "", "x=1 #2"} {
			b.do("right +" + s)
		}
		for _, s := range []string{"x=1 #2", "x=1 #1", ""} {
			b.do("right -" + s)
		}
		b.tells(0)
	}
	b.do("left +x=1 #1", "+x=1 #1")
	b.do("left +y=1", "+y=1")
	b.tells(2, "y=1", "x=1 #1")
}

// P17.1 (Q2): a tuple may come, go and come again on each side, many times.
func TestAgainAndAgain(t *testing.T) {
	b := node(t)
	b.do("left +x=1 #1", "+x=1 #1")
	for range 300 {
		b.do("right +x=1 #2", "-x=1 #1")
		b.do("right -x=1 #2", "+x=1 #1")
	}
	for range 300 {
		b.do("left -x=1 #1", "-x=1 #1")
		b.do("left +x=1 #1", "+x=1 #1")
	}
	b.do("right +x=1 #2", "-x=1 #1")
	for range 300 {
		b.do("left -x=1 #1")
		b.do("left +x=1 #1")
		b.do("right +x=1 #3")
		b.do("right -x=1 #3")
	}
	b.do("right -x=1 #2", "+x=1 #1")
}

// P17.1 (Q1, Q2): All, and what Right tells, are sorted as bind.Sort says, each once, whatever the order in which they came, and the same when asked again.
func TestOrder(t *testing.T) {
	m, want := newMaker(2), lines(ladder())
	for range 30 {
		b, l := node(t), ladder()
		m.Shuffle(len(l), func(i, k int) { l[i], l[k] = l[k], l[i] })
		for _, one := range l {
			b.call("left", put(one), "+"+line(one))
			b.call("left", put(pick(m, b.m.left.l...)))
		}
		b.tells(len(l), want...)
		if got := lines(bind.Sort(b.n.All())); !slices.Equal(got, want) {
			t.Fatalf("got %s, want %s", brief(got), brief(want))
		}
		b.do("right +#7", signed("-", want)...)
		b.tells(len(l) + 1)
		b.do("right -#7", signed("+", want)...)
		b.right(put(tuple("x=1 y=1")))
		b.do("right +", signed("-", lines(b.last))...)
	}
}

// P17.1 (Q2): values whose text has what stands between a tuple's parts are no such parts.
func TestParts(t *testing.T) {
	l := []api.Tuple{
		bound("x", text("1"), 2), bound("x", text("1 #2")), bound("x", text("1 #2 ")), bound("x", text("1 "), 2), bound("x", text("1 y=2")), tuple("x=1 y=2"), tuple(`x="1" y="2"`), tuple(`x="1" y=2`), bound("x", text("1 y=2 ")), bound("x", text("=")), bound("x", text("x=")),
		tuple("x=#1"), tuple("x=#1 #1"), tuple("#1"), bound("x", text("#1")), bound("x", text("#1"), 1), bound("x", text(""), 1), bound("x", text(" ")), bound("x", text("#")), bound("x", text("{1")), bound("x", text("{1}")), bound("x", value(api.Set, "1")),
		bound("x", value(api.Set, `"1 #2"`)), bound("x", value(api.Set, `"1", "2"`)), bound("x", value(api.Set, `"1, 2"`)), bound("x", value(api.Set, "1, 2")), bound("x", value(api.Set, "#1")), bound("x", value(api.Set, "#1"), 2),
	}
	b := node(t)
	for _, one := range l {
		b.call("left", put(one), "+"+line(one))
		b.call("left", put(one))
	}
	for _, i := range newMaker(1).Perm(len(l)) {
		b.right(put(l[i]))
		b.right(put(l[i]))
	}
	b.tells(2 * len(l))
	for _, i := range newMaker(3).Perm(len(l)) {
		b.right(drop(l[i]))
		b.right(drop(l[i]))
	}
	for _, one := range l {
		b.call("left", drop(one), "-"+line(one))
	}
	b.tells(0)
}

// P17.1, P17.3: with all right ones gone all left ones are told; with all gone nothing is told, and none is held.
func TestAllGone(t *testing.T) {
	m := newMaker(6)
	for range 40 {
		b := node(t)
		for range 60 {
			m.step(b)
		}
		for _, one := range slices.Clone(b.m.right.l) {
			b.right(drop(one))
		}
		b.tells(len(b.m.left.l), lines(b.m.left.l)...)
		for _, one := range slices.Clone(b.m.left.l) {
			b.call("left", drop(one), "-"+line(one))
		}
		b.tells(0)
		b.do("left +x=1 #1", "+x=1 #1")
		b.do("right +x=1 #2", "-x=1 #1")
		b.tells(2)
	}
}

// P17.1, P17.3: the same with the left ones gone first.
func TestLeftGoneFirst(t *testing.T) {
	m := newMaker(7)
	for range 40 {
		b := node(t)
		for range 60 {
			m.step(b)
		}
		for _, one := range slices.Clone(b.m.left.l) {
			b.left(drop(one))
		}
		b.tells(len(b.m.right.l))
		for _, one := range slices.Clone(b.m.right.l) {
			b.call("right", drop(one))
		}
		b.tells(0)
	}
}

// wrong is tuples that are not right: by their names, their order, their values, or their facts.
func wrong() []api.Tuple {
	long := string(make([]byte, 5000))
	l := []api.Tuple{bound("", num("1")), bound("X", num("1")), bound("x y", num("1")), bound(long, num("1")), bound("\xff", num("1"), 1), bound("x", num("2/2")), bound("x", num("")), bound("x", text("\"")), bound("x", sym("")), bound("x", value(9, "1")), bound("x", value(-1, "")), bound("x", value(api.None, "1")), bound("x", value(api.Set, "2, 1")), bound("x", text(long)), bound("x", num("1x")), bound("x", num("01")), bound("x", value(math.MinInt, long))}
	l = append(l, tuple("y=1 x=1"), tuple("x=1 x=1"), tuple("x=1 x=2"), tuple("x=2 x=1"), tuple("y=2 x=1 y=1 x=2 #1"))
	for _, ids := range [][]int{{0}, {-1}, {1, -1}, {math.MinInt}, {math.MinInt, math.MaxInt}, make([]int, 3000)} {
		l = append(l, api.Tuple{Ids: ids}, bound("x", num("1"), ids...))
	}
	return l
}

// P1: calls with tuples that are not right end, and do not panic; once they are gone, all is told as ever.
func TestWrongCalls(t *testing.T) {
	n := absent.New()
	for _, add := range []bool{true, true, false, false} {
		for _, one := range append(wrong(), ladder()...) {
			n.Left(api.Delta{Add: add, T: one})
			n.Right(api.Delta{Add: add, T: one})
		}
		n.All()
		n.Held()
	}
	if l := n.All(); len(l) > 0 || n.Held() > 0 {
		t.Fatalf("got %s, %d", brief(lines(l)), n.Held())
	}
	for _, one := range ladder() {
		for _, other := range wrong() {
			n.Right(put(other))
		}
		n.Left(put(one))
		for _, other := range wrong() {
			n.Right(drop(other))
		}
	}
	if !alikeRows(n.All(), ladder()) || n.Held() != len(ladder()) {
		t.Fatalf("got %s, %d", brief(lines(n.All())), n.Held())
	}
}

// P1: that goes on to be so for tuples of any bytes and numbers, on both sides.
func TestStrangeCalls(t *testing.T) {
	m, n := newMaker(7), absent.New()
	for range 600 {
		var one api.Tuple
		for range m.Intn(4) {
			one.Binds = append(one.Binds, api.Bind{Name: pick(m, "x", "y", "", "x=", "Y", "\x00"), V: value(m.Intn(9)-1, pick(m, "", "1", "x", "1, 0", "\"", strings.Repeat("9", 400)))})
		}
		for range m.Intn(4) {
			one.Ids = append(one.Ids, m.Intn(5)-2)
		}
		d := api.Delta{Add: m.Intn(5) < 2, T: one}
		n.Left(d)
		n.Right(api.Delta{Add: !d.Add, T: one})
		if m.Intn(20) == 0 {
			n.All()
		}
	}
	if n.Held() == 0 {
		t.Error("none is held")
	}
}

// P1: what the tests take for right is so.
func TestRightTuples(t *testing.T) {
	all := ladder()
	for _, v := range near() {
		all = append(all, bound("x", v))
	}
	m := newMaker(5)
	for range 2000 {
		all = append(all, m.tuple())
	}
	for _, one := range all {
		if !bind.Right(one) {
			t.Fatalf("%s is not right", line(one))
		}
	}
}
