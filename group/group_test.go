package group_test

import (
	"math"
	"slices"
	"strings"
	"testing"

	"tribunal/api"
	"tribunal/bind"
	"tribunal/group"
)

// noKinds is numbers of which there is no kind.
func noKinds() []int {
	return []int{math.MinInt, math.MinInt + 1, -1 << 32, -6, -1, 0, 7, 8, 256, 257, 1<<32 + 1, math.MaxInt - 1, math.MaxInt}
}

// P18.1 (R1): New of each of the six kinds is a node; of other numbers it is nil.
func TestKinds(t *testing.T) {
	for _, by := range [][]string{nil, {}, {"k"}, {"k", "l"}} {
		for kind := api.FoldCount; kind <= api.FoldSet; kind++ {
			if group.New(kind, "s", "x", by) == nil {
				t.Errorf("kind %d by %v: nil", kind, by)
			}
		}
		for _, kind := range noKinds() {
			if group.New(kind, "s", "x", by) != nil {
				t.Errorf("kind %d by %v: not nil", kind, by)
			}
		}
	}
}

// P18.1 (R1): New is nil, if name is in by, or two of by are alike, at whatever places; else not.
func TestNamesOfNew(t *testing.T) {
	for _, c := range []struct {
		name string
		by   []string
		is   bool
	}{
		{"s", []string{"k", "l", "m"}, true}, {"s", []string{"m", "l", "k"}, true}, {"s", []string{"ss", "t", "r", ""}, true}, {"", []string{"s"}, true},
		{"s", []string{"s"}, false}, {"s", []string{"s", "k", "l"}, false}, {"s", []string{"k", "s", "l"}, false}, {"s", []string{"k", "l", "s"}, false}, {"s", []string{"z", "k", "s"}, false}, {"", []string{"k", ""}, false},
		{"s", []string{"k", "k"}, false}, {"s", []string{"k", "k", "l"}, false}, {"s", []string{"k", "l", "l"}, false}, {"s", []string{"k", "l", "k"}, false}, {"s", []string{"l", "k", "m", "l"}, false}, {"s", []string{"a", "b", "c", "b", "d"}, false}, {"s", []string{"", "k", ""}, false}, {"s", []string{"k", "k", "k"}, false}, {"s", []string{"s", "s"}, false},
	} {
		for kind := api.FoldCount; kind <= api.FoldSet; kind++ {
			if got := group.New(kind, c.name, "x", c.by) != nil; got != c.is {
				t.Errorf("%q by %q: %v", c.name, c.by, got)
			}
		}
		if group.New(0, c.name, "x", c.by) != nil {
			t.Errorf("%q by %q, of no kind: not nil", c.name, c.by)
		}
	}
}

// P18.1 (R1): arg may be in by, and may be name; all may be texts that are no variables' names.
func TestStrangeNames(t *testing.T) {
	strange := []string{"", " ", "X", "x y", "x=1 ", "1", "\x00", "\xff", "\u00e9", "#1", strings.Repeat("x", 25), strings.Repeat("x", 100000)}
	eachKind(t, func(t *testing.T, kind string) {
		node(t, kind, "s", "k", "k")
		node(t, kind, "s", "l", "k", "l", "m")
		node(t, kind, "s", "s")
		node(t, kind, "s", "s", "k")
		for i, one := range strange {
			for _, b := range []*both{node(t, kind, one, "x", "k"), node(t, kind, "s", one, "k"), node(t, kind, "s", "x", one), node(t, kind, one, one), node(t, kind, "s", "x", slices.Delete(slices.Clone(strange), i, i+1)...)} {
				for _, d := range []string{"+x=1 #1", "+k=1 x=1 #1", "+k=1 x=2 #1", "-k=1 x=1 #1", "-x=1 #1", "-k=1 x=2 #1"} {
					b.take(api.Delta{Add: d[0] == '+', T: tuple(d[1:])})
				}
			}
		}
	})
	// What comes of it has such a name at its place, by bytes.
	b := node(t, "count", "\xff", "x", "k")
	b.do("+k=1 x=1", "+k=1 \xff=1")
	b = node(t, "count", "", "x", "k")
	b.do("+k=1 x=1", "+=1 k=1")
}

// none is what comes of no values, by the kinds' order.
func none() []string { return []string{"0", "0", "none", "none", "none", "{}"} }

// P18.1 (R1), P18.3: a new node by some tells nothing, and has no group; by none it has one, of none, whether by is nil or empty. Of the count it is the document's example.
func TestNewNode(t *testing.T) {
	for i, kind := range names() {
		for _, by := range [][]string{nil, {}} {
			n := group.New(i+1, "s", "x", by)
			if got := lines(n.All()); !slices.Equal(got, []string{"s=" + none()[i]}) || n.Held() != 0 || n.Groups() != 1 {
				t.Errorf("%s: got %s, %d, %d", kind, got, n.Held(), n.Groups())
			}
		}
		node(t, kind, "s", "x").tells(0, "s="+none()[i])
		node(t, kind, "s", "x", "k").tells(0)
		node(t, kind, "s", "x", "l", "k").tells(0)
	}
}

// P18.1 (R2): nothing goes out of a new node.
func TestNothingGoes(t *testing.T) {
	eachShape(t, func(b *both) {
		for _, s := range []string{"", "x=1", "k=1 x=1", "k=1 l=1 x=1 y=1", "#1"} {
			b.do("-" + s)
			b.do("-" + s + " #1")
		}
	})
}

// change is one value that comes beside another one, and what a kind comes to ahead, and then.
type change struct{ has, comes, kind, was, is string }

func changes() []change {
	return []change{
		{"5", "0", "count", "1", "2"}, {"5", "5", "count", "1", "2"}, {"'a", "none", "count", "1", "2"},
		{"5", "2", "sum", "5", "7"}, {"5", "-5", "sum", "5", "0"}, {"1/2", "1/3", "sum", "1/2", "5/6"}, {"5", "0", "sum", "5", "5"}, {"0", "0", "sum", "0", "0"},
		{"5", "4", "min", "5", "4"}, {"5", "5", "min", "5", "5"}, {"5", "6", "min", "5", "5"}, {"5", "none", "min", "5", "none"}, {"'a", "5", "min", "'a", "5"}, {"none", "5", "min", "none", "none"}, {"10", "9", "min", "10", "9"},
		{"5", "6", "max", "5", "6"}, {"5", "5", "max", "5", "5"}, {"5", "4", "max", "5", "5"}, {"none", "5", "max", "none", "5"}, {"5", "\"1\"", "max", "5", "\"1\""}, {"{}", "#9", "max", "{}", "{}"}, {"9", "10", "max", "9", "10"},
		{"1", "2", "avg", "1", "3/2"}, {"5", "-5", "avg", "5", "0"}, {"5", "5", "avg", "5", "5"}, {"1/2", "1/3", "avg", "1/2", "5/12"},
		{"5", "6", "set", "{5}", "{5, 6}"}, {"6", "5", "set", "{6}", "{5, 6}"}, {"5", "5", "set", "{5}", "{5}"}, {"5", "{5}", "set", "{5}", "{5}"}, {"{1}", "{2}", "set", "{}", "{}"}, {"none", "'a", "set", "{none}", "{none, 'a}"}, {"\"5\"", "5", "set", "{\"5\"}", "{5, \"5\"}"},
	}
}

// pair is what a change from one result to another one is told as: nothing, if they are the same.
func pair(key, was, is string) []string {
	if was == is {
		return nil
	}
	return []string{"-" + key + was, "+" + key + is}
}

// P18.1 (R2), P18.3: by a variable, the first one of a group is told as an Add alone, a second one as what was, no Add, and what is, an Add, or, if these are the same, as nothing; likewise each one that goes, and the last one as no Add alone. What was there already, or is not there, changes nothing.
func TestChanges(t *testing.T) {
	for _, c := range changes() {
		b := node(t, c.kind, "s", "x", "k")
		b.do("+k=0 x=3 #9", "+k=0 s="+ofThree(c.kind))
		first, second, key := "k=1 x="+c.has+" #1", "k=1 x="+c.comes+" #2", "k=1 s="
		for range 2 {
			b.do("-" + first)
			b.do("+"+first, "+"+key+c.was)
			b.do("+" + first)
			b.do("-" + second)
			b.tells(2, "k=0 s="+ofThree(c.kind), key+c.was)
			b.do("+"+second, pair(key, c.was, c.is)...)
			b.do("+" + first)
			b.do("+" + second)
			b.tells(3, "k=0 s="+ofThree(c.kind), key+c.is)
			b.do("-"+second, pair(key, c.is, c.was)...)
			b.do("-" + second)
			b.do("+"+second, pair(key, c.was, c.is)...)
			b.take(drop(tuple(first)))
			b.do("-" + first)
			b.call(drop(tuple(second)), "-"+line(b.last[1]))
			b.do("-" + second)
			b.tells(1, "k=0 s="+ofThree(c.kind))
		}
	}
}

// ofThree is what comes of a 3 alone.
func ofThree(kind string) string {
	return []string{"1", "3", "3", "3", "3", "{3}"}[slices.Index(names(), kind)]
}

// P18.1 (R2), P18.3: by none, the result of none goes when the first one comes, and comes when the last one goes; nothing is told where both are the same.
func TestChangesByNone(t *testing.T) {
	for _, c := range changes() {
		b, of0 := node(t, c.kind, "s", "x"), none()[kind(c.kind)-1]
		first, second := "x="+c.has+" #1", "x="+c.comes+" #2"
		for range 2 {
			b.do("+"+first, pair("s=", of0, c.was)...)
			b.do("+" + first)
			b.tells(1, "s="+c.was)
			b.do("+"+second, pair("s=", c.was, c.is)...)
			b.tells(2, "s="+c.is)
			b.do("-"+second, pair("s=", c.is, c.was)...)
			b.do("-" + second)
			b.tells(1, "s="+c.was)
			b.do("-"+first, pair("s=", c.was, of0)...)
			b.do("-" + first)
			b.tells(0, "s="+of0)
		}
	}
}

// P18.1 (R2), P18.3: a first sum of 0, a least one, a greatest one of none, and a set of sets, beside the result of none: it is the same by none, so that nothing is told; by a variable it is there now.
func TestFirstIsNone(t *testing.T) {
	for _, c := range [][3]string{{"sum", "0", "0"}, {"min", "none", "none"}, {"max", "none", "none"}, {"set", "{1}", "{}"}} {
		b := node(t, c[0], "s", "x")
		b.do("+x=" + c[1])
		b.do("+x=" + c[1] + " #1")
		b.tells(2, "s="+c[2])
		b.do("-x=" + c[1])
		b.do("-x=" + c[1] + " #1")
		b.tells(0, "s="+c[2])
		b = node(t, c[0], "s", "x", "k")
		b.do("+k=1 x="+c[1], "+k=1 s="+c[2])
		b.do("-k=1 x="+c[1], "-k=1 s="+c[2])
		b.tells(0)
	}
}

// P18.1 (R2): what changes no result is held, and counts all the same: it is told once others go.
func TestCountsUntold(t *testing.T) {
	for _, c := range []struct{ kind, first, more, was, behind string }{
		{"min", "1", "2", "1", "2"}, {"max", "2", "1", "2", "1"}, {"avg", "1", "1", "1", "1"}, {"sum", "7", "0", "7", "0"}, {"set", "1", "1", "{1}", "{1}"}, {"min", "'a", "#1", "'a", "#1"}, {"set", "1", "{1}", "{1}", "{}"},
	} {
		b := node(t, c.kind, "s", "x", "k")
		b.do("+k=1 x="+c.first+" #1", "+k=1 s="+c.was)
		b.do("+k=1 x=" + c.more + " #2")
		b.tells(2, "k=1 s="+c.was)
		b.do("-k=1 x="+c.first+" #1", pair("k=1 s=", c.was, c.behind)...)
		b.tells(1, "k=1 s="+c.behind)
		b.do("-k=1 x="+c.more+" #2", "-k=1 s="+c.behind)
		b.tells(0)
	}
}

// P18.1 (R2): tuples that do not count, as they lack arg, one of by, or both, are held, and tell nothing; no group is made, or changed.
func TestDoesNotCount(t *testing.T) {
	eachKind(t, func(t *testing.T, kind string) {
		for _, c := range []struct{ by, lack []string }{
			{nil, []string{"", "#1", "y=1", "k=1 y=1 #1"}},
			{[]string{"k"}, []string{"", "#1", "x=1", "k=1", "y=1 #1", "k=1 l=1 #2", "k1=1 x=1", "j=1 x=1", "k=1 w=1", "k=1 x1=1"}},
			{[]string{"l", "k"}, []string{"", "x=1 #1", "k=1 x=1", "l=1 x=1", "k=1 l=1", "k=1", "l=1 #1", "k=1 x=1 y=1", "j=1 k=1 x=1", "k=1 k1=1 x=1", "k=1 lz=1 x=1"}},
			{[]string{"x"}, []string{"", "#1", "k=1", "y=1"}},
		} {
			for _, full := range []string{"", "k=1 l=1 x=1 #1"} {
				b := node(t, kind, "s", "x", c.by...)
				if full != "" {
					b.comes(full)
				}
				was := lines(b.last)
				held := b.n.Held()
				for i, s := range c.lack {
					b.do("-" + s)
					b.do("+" + s)
					b.do("+" + s)
					b.tells(held+i+1, was...)
				}
				for i, s := range c.lack {
					b.do("-" + s)
					b.do("-" + s)
					b.tells(held+len(c.lack)-i-1, was...)
				}
			}
		}
	})
}

// P18.1 (R2): a variable is told by all of its name, at whatever place of a tuple it stands, be names of unlike lengths beside it, or its beginning.
func TestAnyNames(t *testing.T) {
	const full = "a=1 a0=2 a00=3 aa=4 ab=5 b=6 ba=7 baaaa=8 c=9 z0=10 zzz=11 #1"
	all := tuple(full)
	for i, arg := range all.Binds {
		for k, by := range all.Binds {
			for _, more := range [][]api.Bind{nil, all.Binds[k+1:], {all.Binds[(k+i+1)%len(all.Binds)]}} {
				var key api.Tuple
				var names []string
				for _, b := range append([]api.Bind{by}, more...) {
					key.Binds, names = append(key.Binds, b), append(names, b.Name)
				}
				if len(names) > 1 && names[1] == names[0] {
					continue
				}
				slices.SortFunc(key.Binds, func(a, b api.Bind) int { return strings.Compare(a.Name, b.Name) })
				node(t, "max", "zzzz", arg.Name, names...).call(put(all), "+"+line(also(key, "zzzz", arg.V)))
			}
		}
	}
	for _, lack := range []string{"a000", "a01", "a1", "ac", "az", "b0", "baa", "baaaaa", "bb", "cc", "d", "z", "z00", "zz", "zzzz", "0", ""} {
		b := node(t, "count", "s", lack, "a")
		b.do("+" + full)
		b.tells(1)
		b = node(t, "count", "s", "c", "z0", lack)
		b.do("+" + full)
		b.tells(1)
	}
}

// kinds is a right value of each kind, as texts.
func kinds() []string {
	return []string{"none", "1", "\"1\"", "'a", "true", "false", "#1", "{}", "{1}"}
}

// P18.1 (R2): of a sum and an average what is no number does not count; of the other kinds values of each kind do.
func TestCountsByKind(t *testing.T) {
	eachKind(t, func(t *testing.T, kindOf string) {
		for _, s := range kinds() {
			b := node(t, kindOf, "s", "x", "k")
			if isOfNums(kind(kindOf)) && s != "1" {
				b.do("+k=1 x=" + s)
				b.tells(1)
				b.do("+k=1 x=3 #1", "+k=1 s=3")
				b.do("-k=1 x=" + s)
				b.do("+k=1 x=" + s + " #3")
				b.tells(2, "k=1 s=3")
				b.do("-k=1 x=3 #1", "-k=1 s=3")
				b.do("-k=1 x=" + s + " #3")
				b.tells(0)
				continue
			}
			want := "+k=1 s=" + written(folded(kind(kindOf), []api.Value{read(s)}))
			b.do("+k=1 x="+s, want)
			b.tells(1, want[1:])
			b.do("-k=1 x="+s, "-"+want[1:])
			b.tells(0)
		}
		all := node(t, kindOf, "s", "x")
		for _, s := range kinds() {
			all.comes("x="+s+" #1", "x="+s+" #2")
		}
		all.tells(18, "s="+[]string{"18", "2", "none", "{1}", "1", "{none, 1, \"1\", 'a, false, true, #1}"}[kind(kindOf)-1])
	})
}

// P18.1 (R2): each value is had as often as there are tuples with it: that are alike but for their facts, for these facts' order, or for a variable that is neither in by nor arg.
func TestAsOftenAsHad(t *testing.T) {
	for _, l := range [][]string{{"k=1 x=4 #1", "k=1 x=4 #2"}, {"k=1 x=4", "k=1 x=4 #1"}, {"k=1 x=4 #1", "k=1 x=4 #1 #1"}, {"k=1 x=4 #1 #2", "k=1 x=4 #2 #1"}, {"k=1 x=4 y=1", "k=1 x=4 y=2"}, {"k=1 x=4", "a=1 k=1 x=4"}, {"k=1 l=1 x=4 #1", "k=1 l='a x=4 #1"}} {
		for i, kind := range names() {
			once := []string{"1", "4", "4", "4", "4", "{4}"}[i]
			twice := []string{"2", "8", "4", "4", "4", "{4}"}[i]
			b := node(t, kind, "s", "x", "k")
			b.do("+"+l[0], "+k=1 s="+once)
			b.do("+"+l[1], pair("k=1 s=", once, twice)...)
			b.tells(2, "k=1 s="+twice)
			b.do("-"+l[0], pair("k=1 s=", twice, once)...)
			b.do("-" + l[0])
			b.tells(1, "k=1 s="+once)
			b.do("+"+l[0], pair("k=1 s=", once, twice)...)
			b.do("-"+l[1], pair("k=1 s=", twice, once)...)
			b.do("-"+l[0], "-k=1 s="+once)
			b.tells(0)
		}
	}
}

// P18.1 (R2), P18.4: averages and sums of fractions are exact; a value's sum is 0 again once all of it went.
func TestFractions(t *testing.T) {
	b := node(t, "sum", "s", "x", "k")
	b.do("+k=1 x=1/10 #1", "+k=1 s=1/10")
	b.do("+k=1 x=1/5 #1", "-k=1 s=1/10", "+k=1 s=3/10")
	b.do("+k=1 x=-3/10 #1", "-k=1 s=3/10", "+k=1 s=0")
	b.do("+k=1 x=1/3 #1", "-k=1 s=0", "+k=1 s=1/3")
	b.do("+k=1 x=1/7 #1", "-k=1 s=1/3", "+k=1 s=10/21")
	b.do("-k=1 x=1/10 #1", "-k=1 s=10/21", "+k=1 s=79/210")
	b = node(t, "avg", "s", "x", "k")
	b.do("+k=1 x=1 #1", "+k=1 s=1")
	b.do("+k=1 x=2 #1", "-k=1 s=1", "+k=1 s=3/2")
	b.do("+k=1 x=2 #2", "-k=1 s=3/2", "+k=1 s=5/3")
	b.do("+k=1 x=5/3 #2")
	b.do("+k=1 x=-20/3", "-k=1 s=5/3", "+k=1 s=0")
	b.do("-k=1 x=1 #1", "-k=1 s=0", "+k=1 s=-1/4")
}

// P18.1 (R2): numbers of 300 digits are folded as others are.
func TestLongNumbers(t *testing.T) {
	long, less := nines(300), nines(299)+"8"
	for i, kind := range names() {
		b := node(t, kind, "s", "x", "k")
		b.do("+k="+long+" x="+long+" #1", "+k="+long+" s="+[]string{"1", long, long, long, long, "{" + long + "}"}[i])
		b.do("+k="+less+" x="+long+" #1", "+k="+less+" s="+[]string{"1", long, long, long, long, "{" + long + "}"}[i])
		b.take(put(tuple("k=" + long + " x=" + less + " #2")))
		b.take(put(tuple("k=" + long + " x=-" + nines(299) + " #3")))
		b.take(put(tuple("k=" + long + " x=1/" + nines(298) + " #4")))
		if len(b.last) != 2 || b.n.Held() != 5 {
			t.Errorf("got %s", brief(lines(b.last)))
		}
	}
	b := node(t, "sum", "s", "x")
	b.do("+x="+long, "-s=0", "+s="+long)
	b.do("+x=-"+nines(299), "-s="+long, "+s=9"+strings.Repeat("0", 299))
	b.do("+x=-9"+strings.Repeat("0", 298), "-s=9"+strings.Repeat("0", 299), "+s=81"+strings.Repeat("0", 298))
}

// P18.1 (R2), P18.4: a sum, and an average, that has no room in a value comes to none, while its group is there, and is some again once one goes.
func TestNoRoomForNumbers(t *testing.T) {
	long, tiny := nines(300), "1/"+nines(298)
	for _, c := range [][3]string{{"sum", long, "1"}, {"sum", tiny, "1/1" + strings.Repeat("0", 297)}, {"avg", long, nines(299) + "8"}, {"avg", tiny, "1"}} {
		b, one, key := node(t, c[0], "s", "x", "k"), c[1], "k=1 s="
		b.do("+k=0 x="+one, "+k=0 s="+one)
		b.do("+k=1 x="+one, "+"+key+one)
		for range 2 {
			b.do("+k=1 x="+c[2], pair(key, one, "none")...)
			b.do("+k=1 x="+c[2]+" #1", pair(key, "none", line(b.m.all()[1])[len(key):])...)
			b.tells(4, "k=0 s="+one, line(b.last[1]))
			b.take(drop(tuple("k=1 x=" + c[2] + " #1")))
			b.tells(3, "k=0 s="+one, key+"none")
			b.do("-k=1 x="+c[2], pair(key, "none", one)...)
		}
		b.do("+k=1 x="+c[2], pair(key, one, "none")...)
		b.do("-k=1 x="+one, pair(key, "none", c[2])...)
		b.do("-k=1 x="+c[2], "-"+key+c[2])
		b.tells(1, "k=0 s="+one)
	}
}

// P18.1 (R2), P18.4: nor does a set of very many have room, whose group is there as well; of none it is told as ever.
func TestNoRoomForSets(t *testing.T) {
	for _, by := range [][]string{{"k"}, nil} {
		b := node(t, "set", "s", "x", by...)
		longs := make([]api.Tuple, 60)
		for i := range longs {
			// In a set each takes 104 bytes, the last one 102.
			longs[i] = also(tuple("k=1 #1"), "x", text(strings.Repeat("a", 50)+strings.Repeat(string(rune('0'+i)), 50)))
		}
		for range 2 {
			for i, one := range longs {
				b.take(put(one))
				v, _ := of(b.last[0], "s")
				if room := i < 38; len(b.last) != 1 || (v.Kind == api.Set) != room || (v == api.Value{}) == room {
					t.Fatalf("%d: got %s", i, brief(lines(b.last)))
				}
			}
			b.do("+k=1 x=5")
			for i, one := range longs {
				got := b.take(drop(one))
				if len(got) > 0 != (i >= 60-39) {
					t.Fatalf("%d: got %s", i, brief(told(got)))
				}
			}
			b.take(drop(tuple("k=1 x=5")))
		}
		if b.n.Held() != 0 {
			t.Errorf("%d are held", b.n.Held())
		}
	}
}

// P18.1 (R2): groups by one, two and three variables; in whatever order by names them, keys have them in theirs.
func TestOrdersOfBy(t *testing.T) {
	l := []string{"k=1 l=1 m=1 x=1 #1", "k=1 l=1 m=2 x=2 #2", "k=1 l=2 m=1 x=3 #3", "k=1 l=2 m=2 x=4 #4", "k=2 l=1 m=1 x=5 #5", "k=2 l=1 m=2 x=6 #6", "k=2 l=2 m=1 x=7 #7", "k=2 l=2 m=2 x=8 #8", "k=2 l=2 m=2 x=9 #9"}
	for _, c := range []struct {
		by   []string
		want []string
	}{
		{nil, []string{"s=45"}},
		{[]string{"k"}, []string{"k=1 s=10", "k=2 s=35"}},
		{[]string{"l"}, []string{"l=1 s=14", "l=2 s=31"}},
		{[]string{"m"}, []string{"m=1 s=16", "m=2 s=29"}},
		{[]string{"l", "k"}, []string{"k=1 l=1 s=3", "k=1 l=2 s=7", "k=2 l=1 s=11", "k=2 l=2 s=24"}},
		{[]string{"m", "k"}, []string{"k=1 m=1 s=4", "k=1 m=2 s=6", "k=2 m=1 s=12", "k=2 m=2 s=23"}},
		{[]string{"m", "l", "k"}, []string{"k=1 l=1 m=1 s=1", "k=1 l=1 m=2 s=2", "k=1 l=2 m=1 s=3", "k=1 l=2 m=2 s=4", "k=2 l=1 m=1 s=5", "k=2 l=1 m=2 s=6", "k=2 l=2 m=1 s=7", "k=2 l=2 m=2 s=17"}},
	} {
		for _, order := range permutations(len(c.by)) {
			var names []string
			for _, i := range order {
				names = append(names, c.by[i])
			}
			b := node(t, "sum", "s", "x", names...).comes(l...)
			b.tells(len(l), c.want...)
		}
	}
}

// permutations is each order of that many.
func permutations(many int) [][]int {
	if many == 0 {
		return [][]int{nil}
	}
	var all [][]int
	for _, l := range permutations(many - 1) {
		for i := range many {
			all = append(all, slices.Insert(slices.Clone(l), i, many-1))
		}
	}
	return all
}

// P18.1 (R2): keys that are alike but for a value's kind are unlike, each of a group of its own.
func TestKindsOfKeys(t *testing.T) {
	keys := []string{"k=none", "k=1", "k=10", "k=\"\"", "k=\"#1\"", "k=\"'a\"", "k=\"1\"", "k=\"a\"", "k=\"none\"", "k=\"true\"", "k=\"{1}\"", "k='a", "k='none", "k='true", "k=true", "k=#1", "k=#10", "k={}", "k={\"1\"}", "k={#1}", "k={'a}", "k={1}", "k={none}", "k={true}"}
	b := node(t, "count", "s", "x", "k")
	var want []string
	for i, key := range keys {
		b.do("+"+key+" x=1", "+"+key+" s=1")
		b.do("+"+key+" x=2", "-"+key+" s=1", "+"+key+" s=2")
		want = append(want, key+" s=2")
		b.tells(2*(i+1), want...)
	}
	for i, key := range keys {
		b.do("-"+key+" x=1", "-"+key+" s=2", "+"+key+" s=1")
		b.do("-"+key+" x=2", "-"+key+" s=1")
		b.tells(2*(len(keys)-i-1), want[i+1:]...)
	}
}

// P18.1 (R2): keys of two whose texts, put one behind the other, look alike, or which have what stands between a tuple's parts, are unlike; so are those whose values stand the other way round.
func TestTextsOfKeys(t *testing.T) {
	pairs := [][2]api.Value{
		{num("1"), num("12")}, {num("11"), num("2")}, {num("112"), num("2")}, {num("12"), num("1")}, {num("2"), num("11")},
		{text("a"), text("b")}, {text("ab"), text("")}, {text(""), text("ab")}, {text("b"), text("a")}, {text("a b"), text("")}, {text("a "), text("b")}, {text("a"), text(" b")},
		{text("1 l=2"), num("3")}, {num("1"), text("2 l=3")}, {text("1 l=2"), text("3")}, {text("1"), text("2 l=3")}, {text("1"), text("l=2")}, {text("1 l="), text("2")}, {text("1, 2"), num("1")}, {value(api.Set, "1, 2"), num("1")}, {value(api.Set, "1"), text(", 2")},
		{sym("a"), sym("bc")}, {sym("ab"), sym("c")}, {sym("abc"), sym("c")}, {sym("a"), sym("a")}, {text("'a"), sym("a")}, {sym("a"), text("'a")}, {value(api.Id, "1"), value(api.Id, "12")}, {value(api.Id, "11"), value(api.Id, "2")}, {num("1"), text("1")}, {text("1"), num("1")}, {{}, {}}, {{}, sym("none")}, {sym("none"), {}}, {text("none"), {}}, {value(api.Bool, "true"), sym("true")}, {sym("true"), value(api.Bool, "true")},
	}
	b := node(t, "sum", "s", "x", "l", "k")
	for i, p := range pairs {
		one := also(also(bound("k", p[0], i+1), "l", p[1]), "x", num("1"))
		b.call(put(one), "+"+line(also(also(bound("k", p[0]), "l", p[1]), "s", num("1"))))
	}
	if len(b.last) != len(pairs) {
		t.Fatalf("got %d of %d", len(b.last), len(pairs))
	}
	for i, p := range pairs {
		if got := b.take(drop(also(also(bound("k", p[0], i+1), "l", p[1]), "x", num("1")))); len(got) != 1 || got[0].Add {
			t.Fatalf("got %s", brief(told(got)))
		}
	}
	b.tells(0)
}

// P18.1 (R2): the result's name stands at its place by bytes, among by's names; a tuple's own value of it changes nothing, be it another variable's or arg's.
func TestPlaceOfName(t *testing.T) {
	for _, c := range [][2]string{{"a", "a=3 k=1 m=2"}, {"j9", "j9=3 k=1 m=2"}, {"k0", "k=1 k0=3 m=2"}, {"l", "k=1 l=3 m=2"}, {"lz", "k=1 lz=3 m=2"}, {"m0", "k=1 m=2 m0=3"}, {"s", "k=1 m=2 s=3"}, {"x", "k=1 m=2 x=3"}, {"zz", "k=1 m=2 zz=3"}} {
		for _, by := range [][]string{{"k", "m"}, {"m", "k"}} {
			b := node(t, "sum", c[0], "x", by...)
			b.do("+k=1 m=2 x=3 #7", "+"+c[1])
			b.tells(1, c[1])
			b.do("+k=1 m=2 x=0 #7")
			b.do("-k=1 m=2 x=3 #7", "-"+c[1], "+"+strings.Replace(c[1], "3", "0", 1))
			b.do("-k=1 m=2 x=0 #7", "-"+strings.Replace(c[1], "3", "0", 1))
		}
	}
	for _, own := range []string{"5", "'a", "\"s\"", "none", "3"} {
		b := node(t, "sum", "s", "x", "k")
		b.do("+k=1 s="+own+" x=3 #7", "+k=1 s=3")
		b.do("+k=1 x=4 #7", "-k=1 s=3", "+k=1 s=7")
		b.do("-k=1 s="+own+" x=3 #7", "-k=1 s=7", "+k=1 s=4")
		b = node(t, "count", "s", "s", "k")
		b.do("+k=1 s="+own, "+k=1 s=1")
		b.do("+k=1 s="+own+" #1", "-k=1 s=1", "+k=1 s=2")
		b.do("-k=1 s="+own, "-k=1 s=2", "+k=1 s=1")
	}
	b := node(t, "avg", "x", "x")
	b.do("+x=1", "-x=none", "+x=1")
	b.do("+x=2", "-x=1", "+x=3/2")
}

// P18.1 (R1): arg may be one of by: each group is then of one value.
func TestArgInBy(t *testing.T) {
	for i, want := range []string{"2", "4", "2", "2", "2", "{2}"} {
		b := node(t, names()[i], "z", "x", "x").comes("x=2 #1", "x=2 #2", "k=1 #1", "x=3 #1")
		b.tells(4, "x=2 z="+want, "x=3 z="+ofThree(names()[i]))
		b = node(t, names()[i], "z", "x", "x", "k").comes("k=1 x=2 #1", "k=1 x=2 #2", "x=2", "k=2 x=3 #1")
		b.tells(4, "k=1 x=2 z="+want, "k=2 x=3 z="+ofThree(names()[i]))
	}
}

// P18.1 (R2): each result is on no facts, whatever the tuples' facts are; nor are these in the way where they are alike.
func TestNoFacts(t *testing.T) {
	eachShape(t, func(b *both) {
		m := newMaker(1)
		for range 40 {
			for _, d := range m.step(b) {
				if len(d.T.Ids) > 0 {
					t.Fatalf("got %s", told([]api.Delta{d}))
				}
			}
			if i := slices.IndexFunc(b.n.All(), func(one api.Tuple) bool { return len(one.Ids) > 0 }); i >= 0 {
				t.Fatalf("got %s", lines(b.n.All()))
			}
		}
	})
}

// P18.1 (R1), P18.3: All is sorted as bind.Sort says, each group once, and the same when asked again, whatever the order in which the groups came.
func TestOrder(t *testing.T) {
	want := []string{"k=none s=2", "k=-1 s=2", "k=1/2 s=2", "k=9 s=2", "k=10 s=2", "k=\"\" s=2", "k=\"10\" s=2", "k=\"9\" s=2", "k='a s=2", "k='a1 s=2", "k=false s=2", "k=true s=2", "k=#9 s=2", "k=#10 s=2", "k={} s=2", "k={1} s=2"}
	m := newMaker(2)
	for range 40 {
		b := node(t, "count", "s", "x", "k")
		for range 2 {
			for _, i := range m.Perm(len(want)) {
				key, _, _ := strings.Cut(want[i], " ")
				b.comes(key+" x=1", key+" x=2")
			}
			b.tells(2*len(want), want...)
			if got := b.n.All(); !alikeRows(bind.Sort(got), got) {
				t.Fatalf("got %s", brief(lines(got)))
			}
		}
	}
	b := node(t, "min", "a", "x", "k").comes("k=1 x=9", "k=2 x=10", "k=3 x='a", "k=4 x=-1", "k=0 x=none")
	b.tells(5, "a=none k=0", "a=-1 k=4", "a=9 k=1", "a=10 k=2", "a='a k=3")
}

// P18.1 (R2), P18.3: a group may go and come again, many times; so may one tuple of more.
func TestAgainAndAgain(t *testing.T) {
	eachKind(t, func(t *testing.T, kind string) {
		for _, by := range [][]string{{"k"}, nil} {
			b := node(t, kind, "s", "x", by...).comes("k=0 x=9")
			var want [2][]api.Delta
			for i := range 200 {
				came, went := b.take(put(tuple("k=1 x=5 #1"))), b.take(drop(tuple("k=1 x=5 #1")))
				if i == 0 {
					want = [2][]api.Delta{own(came), own(went)}
				}
				if !alikeDeltas(came, want[0]) || !alikeDeltas(went, want[1]) {
					t.Fatalf("%d: got %s and %s", i, brief(told(came)), brief(told(went)))
				}
			}
			b.comes("k=1 x=6 #2")
			for range 200 {
				b.comes("k=1 x=5 #1").take(drop(tuple("k=1 x=5 #1")))
			}
		}
	})
}

// P18.1, P18.3: with all gone none is held, and there is no group by some; by none there is the one of none.
func TestAllGone(t *testing.T) {
	m := newMaker(6)
	eachShape(t, func(b *both) {
		was := lines(b.last)
		for range 2 {
			for range 30 {
				m.step(b)
			}
			for _, one := range ownTuples(b.m.row.l) {
				b.take(drop(one))
			}
			b.tells(0, was...)
		}
	})
}

// wrong is tuples that are not right: by their names, their order, their values, or their facts.
func wrong() []api.Tuple {
	long := string(make([]byte, 5000))
	l := []api.Tuple{bound("", num("1")), bound("X", num("1")), bound("x y", num("1")), bound("k=1 x", num("1")), bound(long, num("1")), bound("\xff", num("1"), 1)}
	for _, v := range []api.Value{num("2/2"), num(""), num("1x"), num("01"), num("1/0"), num(nines(301)), num(nines(3000)), text("\""), text(long), sym(""), sym("A"), value(9, "1"), value(-1, ""), value(api.None, "1"), value(api.Set, "2, 1"), value(api.Bool, "maybe"), value(api.Id, "-1"), value(math.MinInt, long), value(math.MaxInt, "")} {
		l = append(l, bound("x", v), also(tuple("k=1"), "x", v), also(bound("k", v), "x", num("1")), also(bound("k", v), "x", v), also(also(bound("k", v), "l", v), "x", num("1")))
	}
	l = append(l, tuple("x=1 k=1"), tuple("x=1 x=1"), tuple("x=1 x=2"), tuple("k=1 k=2 x=1"), tuple("k=1 x=1 k=2"), tuple("x=2 l=1 k=1 x=1"), tuple("y=2 x=1 y=1 x=2 #1"), tuple("x=1 l=1 k=1 #1"))
	for _, ids := range [][]int{{0}, {-1}, {1, -1}, {math.MinInt}, {math.MinInt, math.MaxInt}, make([]int, 3000)} {
		l = append(l, api.Tuple{Ids: ids}, bound("x", num("1"), ids...), also(bound("k", num("1"), ids...), "x", num("1")))
	}
	return l
}

// P1: calls with tuples that are not right end, and do not panic; once they are gone, all is told as ever.
func TestWrongCalls(t *testing.T) {
	eachShape(t, func(b *both) {
		was := lines(b.last)
		back := wrong()
		slices.Reverse(back)
		for _, l := range [][]api.Tuple{wrong(), back} {
			for _, add := range []bool{false, true, true, false, false} {
				for _, one := range l {
					b.n.Take(api.Delta{Add: add, T: one})
				}
				b.n.All()
			}
		}
		b.tells(0, was...)
		b.comes("k=1 l=1 x=1 y=1 #1", "k=1 l=1 x=2 y=1 #1", "k=2 x=2", "x=2")
	})
}

// P1: that is so as well where one that has another one's text goes in its place.
func TestWrongTexts(t *testing.T) {
	twins := [][2]api.Tuple{
		{tuple("k=1 x=2"), bound("k=1 x", num("2"))}, {tuple("k=1 x=2"), also(bound("k", num("1")), "x", num("2"))},
		{also(tuple("k=1"), "x", num("1x")), also(tuple("k=1"), "x", text("\""))}, {bound("x", num("01")), bound("x", value(9, ""))}, {also(bound("k", num("01")), "x", num("1")), also(bound("k", sym("")), "x", num("1"))}, {tuple("x=1 #1"), bound("x=1 #1 x", num("1"))},
	}
	eachShape(t, func(b *both) {
		for _, twin := range twins {
			for _, d := range []api.Delta{put(twin[0]), drop(twin[1]), put(twin[1]), drop(twin[0]), put(twin[1]), put(twin[0]), drop(twin[0]), drop(twin[1])} {
				b.n.Take(d)
				b.n.All()
				b.n.Groups()
			}
			if b.n.Held() != 0 {
				t.Fatalf("%d are held", b.n.Held())
			}
		}
	})
}

// P1: so it is for tuples of any bytes and numbers.
func TestStrangeCalls(t *testing.T) {
	m := newMaker(7)
	eachShape(t, func(b *both) {
		for range 200 {
			var one api.Tuple
			for range m.Intn(5) {
				one.Binds = append(one.Binds, api.Bind{Name: pick(m, "k", "l", "x", "y", "", "x=", "K", "\x00"), V: value(m.Intn(9)-1, pick(m, "", "1", "x", "1, 0", "\"", strings.Repeat("9", 400)))})
			}
			for range m.Intn(3) {
				one.Ids = append(one.Ids, m.Intn(5)-2)
			}
			b.n.Take(api.Delta{Add: m.Intn(5) < 3, T: one})
			if m.Intn(20) == 0 {
				b.n.All()
			}
		}
	})
}

// P1: what the tests take for right is so.
func TestRightTuples(t *testing.T) {
	m, all := newMaker(5), []api.Tuple{}
	for _, v := range near() {
		all = append(all, bound("x", v))
	}
	for range 3000 {
		all = append(all, m.tuple())
	}
	for _, one := range all {
		if !bind.Right(one) {
			t.Fatalf("%s is not right", line(one))
		}
	}
}
