package show_test

import (
	"fmt"
	"reflect"
	"slices"
	"strconv"
	"strings"
	"sync"
	"testing"

	"tribunal/api"
	"tribunal/show"
)

// itself is an expression in whose list it stands, behind another one.
func itself(op string, first api.Expr) api.Expr {
	l := []api.Expr{first, {Op: op}}
	l[1].L = l
	return l[1]
}

// ring is that many expressions, each of which stands in the next one's list, beside a number; the last one in the first one's. Some of the numbers may be others.
func ring(many int, others map[int]string) []api.Expr {
	l := make([]api.Expr, 2*many)
	for i := range many {
		n := others[i]
		if n == "" {
			n = "1"
		}
		next := (2*i + 2) % (2 * many)
		l[2*i], l[2*i+1] = api.Expr{Op: "+", L: l[next : next+2]}, num(n)
	}
	return l
}

// counted is a condition that stands among those that it counts, behind others.
func counted(name string, others ...api.Cond) api.Cond {
	l := append(slices.Clone(others), api.Cond{Kind: api.CondLet, Var: name, Fold: "count", Arg: "x", By: []string{"y"}})
	l[len(l)-1].Over = l
	return l[len(l)-1]
}

// P1, P12.1 (L1): an expression that stands in itself, at once, is shown without those in it, wherever expressions stand; those beside it, and around it, are shown whole.
func TestStandsInItself(t *testing.T) {
	e := itself("+", num("1"))
	shown := func(e api.Expr, want string) {
		t.Helper()
		is(t, show.Expr(e), want)
		is(t, show.Expr(two("-", e, named("x"))), "( - "+want+" ?x )")
		is(t, show.Expr(api.Expr{Op: "*", L: []api.Expr{num("2"), e, two("/", e, e)}}), "( * 2 "+want+" ( / "+want+" "+want+" ) )")
		is(t, show.Cond(api.Cond{Kind: api.CondIf, Op: "<", A: e, B: named("y")}), "( if < "+want+" ?y )")
		is(t, show.Cond(api.Cond{Kind: api.CondIf, Op: "<", A: two("*", num("1"), num("2")), B: e}), "( if < ( * 1 2 ) "+want+" )")
		is(t, show.Act(api.Act{Kind: api.ActPrint, E: e}), "( print "+want+" )")
		fills := []api.Fill{{Name: "b", E: e}, {Name: "c", E: two("+", num("1"), num("2"))}, {Name: "d", E: e}}
		is(t, show.Act(api.Act{Kind: api.ActAssert, Tmpl: "a", Fills: fills}), "( assert a ( b "+want+" ) ( c ( + 1 2 ) ) ( d "+want+" ) )")
		is(t, show.Act(api.Act{Kind: api.ActModify, Var: "f", Fills: fills}), "( modify ?f ( b "+want+" ) ( c ( + 1 2 ) ) ( d "+want+" ) )")
		r := api.Rule{Name: "r", Conds: []api.Cond{halted(), {Kind: api.CondIf, Op: "=", A: e, B: e}, halted()}, Acts: []api.Act{{Kind: api.ActPrint, E: e}, {Kind: api.ActHalt}}}
		is(t, show.Rule(r), "( rule r 0 ( ( halt ) ( if = "+want+" "+want+" ) ( halt ) ) ( ( print "+want+" ) ( halt ) ) )")
		is(t, show.Show(api.Program{Tmpls: []api.Template{{Name: "a"}}, Rules: []api.Rule{r, r}}), "( template a )\n"+show.Rule(r)+"\n"+show.Rule(r)+"\n")
	}
	shown(e, "( + )")
	shown(e.L[1], "( + )")
	shown(api.Expr{Op: "-", L: e.L}, "( - 1 ( + ) )")
	shown(api.Expr{Op: "-", L: e.L[1:]}, "( - ( + ) )")
	shown(api.Expr{Op: "-", L: e.L[:1]}, "( - 1 )")
	// A term has nothing in it that is shown.
	e.L[1].Op = ""
	shown(e.L[1], "none")
	shown(api.Expr{Op: "-", L: e.L}, "( - 1 none )")
}

// P1, P12.1 (L1): expressions that stand in themselves over one or more others.
func TestStandsInItselfOverOthers(t *testing.T) {
	for _, many := range []int{1, 2, 3, 7, 1000} {
		alike, unlike := ring(many, nil), ring(many, map[int]string{many / 2: "2"})
		is(t, show.Expr(api.Expr{Op: "*", L: alike}), "( *"+times(" ( + ) 1", many)+" )")
		want := slices.Repeat([]string{" ( + ) 1"}, many)
		want[many/2] = " ( + ) 2"
		is(t, show.Expr(api.Expr{Op: "*", L: unlike}), "( *"+strings.Join(want, "")+" )")
		// The one that leads into it is one more, of another number.
		is(t, show.Expr(two("-", api.Expr{Op: "+", L: []api.Expr{alike[0], num("3")}}, num("4"))), "( - ( + ( + ) 3 ) 4 )")
		is(t, show.Expr(api.Expr{Op: "+", L: []api.Expr{alike[0], num("1")}}), "( + )")
	}
	inner := itself("*", num("1"))
	l := []api.Expr{two("/", num("7"), inner), inner, {Op: "+"}}
	l[2].L = l
	is(t, show.Expr(l[2]), "( + )")
	is(t, show.Expr(api.Expr{Op: "-", L: l}), "( - ( / 7 ( * ) ) ( * ) ( + ) )")
}

// P1, P12.1 (L1): expressions whose list is a part of the one that they stand in.
func TestStandsInAPart(t *testing.T) {
	l := []api.Expr{num("1"), {Op: "+"}, {Op: "-"}, num("2")}
	l[1].L, l[2].L = l[1:2], l[1:]
	is(t, show.Expr(api.Expr{Op: "*", L: l}), "( * 1 ( + ) ( - ) 2 )")
	l[2].L = l[:2]
	is(t, show.Expr(api.Expr{Op: "*", L: l}), "( * 1 ( + ) ( - 1 ( + ) ) 2 )")
	l[1].L, l[2].L = l[2:], l[:2]
	is(t, show.Expr(api.Expr{Op: "*", L: l}), "( * 1 ( + ) ( - ) 2 )")
	l[1].L, l[2].L = l[2:], l[3:]
	is(t, show.Expr(api.Expr{Op: "*", L: l}), "( * 1 ( + ( - 2 ) 2 ) ( - 2 ) 2 )")
	l[1].L, l[2].L = l[1:1], l[2:2]
	is(t, show.Expr(api.Expr{Op: "*", L: l}), "( * 1 ( + ) ( - ) 2 )")
}

// P1, P12.1 (L1): conditions that stand among those that they count, at once, over others, and in a part of a list.
func TestCountsItself(t *testing.T) {
	c, bare := counted("n"), "( let ?n count ?x ( ?y ) ( ) )"
	is(t, show.Cond(c), bare)
	is(t, show.Rule(api.Rule{Name: "r", Conds: c.Over}), "( rule r 0 ( "+bare+" ) ( ) )")
	is(t, show.Rule(api.Rule{Name: "r", Conds: []api.Cond{halted(), c, halted()}}), "( rule r 0 ( ( halt ) "+bare+" ( halt ) ) ( ) )")
	over := api.Cond{Kind: api.CondLet, Var: "m", Fold: "sum", Arg: "z", Over: []api.Cond{halted(), c, c}}
	is(t, show.Cond(over), "( let ?m sum ?z ( ) ( ( halt ) "+bare+" "+bare+" ) )")
	test := api.Cond{Kind: api.CondIf, Op: "<", A: itself("+", num("1")), B: num("2")}
	c = counted("n", test, halted())
	is(t, show.Cond(c), bare)
	is(t, show.Cond(api.Cond{Kind: api.CondLet, Var: "m", Fold: "sum", Arg: "z", Over: c.Over}), "( let ?m sum ?z ( ) ( ( if < ( + ) 2 ) ( halt ) "+bare+" ) )")
	// What is over itself in a condition of another kind is not shown.
	for _, kind := range []int{api.CondPat, api.CondNot, api.CondIf, 0, 5} {
		c := counted("n")
		c.Over[0].Kind = kind
		over.Over = c.Over
		is(t, show.Cond(over), "( let ?m sum ?z ( ) ( "+toldCond(api.Cond{Kind: kind})+" ) )")
	}
	l := []api.Cond{{Kind: api.CondLet, Var: "a"}, {Kind: api.CondLet, Var: "b"}, {Kind: api.CondLet, Var: "c"}}
	l[0].Over, l[1].Over, l[2].Over = l[1:2], l[:1], l[2:]
	over.Over = l
	is(t, show.Cond(over), "( let ?m sum ?z ( ) ( ( let ?a  ? ( ) ( ) ) ( let ?b  ? ( ) ( ) ) ( let ?c  ? ( ) ( ) ) ) )")
}

// P1, P12.1 (L1): a program all of whose parts hold themselves, and what stands beside these.
func TestProgramsThatHoldThemselves(t *testing.T) {
	e := itself("+", num("1"))
	conds := []api.Cond{{Kind: api.CondIf, Op: "<", A: e, B: num("1")}, {Kind: api.CondLet, Var: "n", Fold: "count", Arg: "x"}}
	conds[1].Over = conds
	acts := []api.Act{{Kind: api.ActPrint, E: e}, {Kind: api.ActAssert, Tmpl: "a", Fills: []api.Fill{{Name: "b", E: e}}}, {Kind: api.ActHalt}}
	p := api.Program{Tmpls: []api.Template{{Name: "a"}}, Rules: []api.Rule{{Name: "r", Conds: conds, Acts: acts}, {Name: "s", Conds: conds[:1]}}}
	is(t, show.Show(p), "( template a )\n( rule r 0 ( ( if < ( + ) 1 ) ( let ?n count ?x ( ) ( ) ) ) ( ( print ( + ) ) ( assert a ( b ( + ) ) ) ( halt ) ) )\n( rule s 0 ( ( if < ( + ) 1 ) ) ( ) )\n")
	checkSame(t, p, p, true)
}

// P12.1: a list that stands at two places, of which neither is in the other, is shown at both, beside what holds itself, too; so are lists that are parts of one another.
func TestAtTwoPlaces(t *testing.T) {
	l := []api.Expr{num("1"), num("2")}
	row := []api.Expr{{Op: "+", L: l}, {Op: "+", L: l}}
	checkExpr(t, api.Expr{Op: "*", L: []api.Expr{{Op: "-", L: row}, {Op: "-", L: row[:1]}, {Op: "-", L: row[1:]}, {Op: "/", L: row}}}, "( * ( - ( + 1 2 ) ( + 1 2 ) ) ( - ( + 1 2 ) ) ( - ( + 1 2 ) ) ( / ( + 1 2 ) ( + 1 2 ) ) )")
	is(t, show.Expr(api.Expr{Op: "*", L: []api.Expr{{Op: "-", L: row}, itself("/", num("3")), {Op: "-", L: row}}}), "( * ( - ( + 1 2 ) ( + 1 2 ) ) ( / ) ( - ( + 1 2 ) ( + 1 2 ) ) )")
	parts := []api.Expr{{Op: "+"}, {Op: "-"}, {Op: "*"}, num("3")}
	for i := range 3 {
		parts[i].L = parts[i+1:]
	}
	checkExpr(t, api.Expr{Op: "/", L: parts}, "( / ( + ( - ( * 3 ) 3 ) ( * 3 ) 3 ) ( - ( * 3 ) 3 ) ( * 3 ) 3 )")
	for i := range 3 {
		parts[i].L = parts[i+1 : i+2]
	}
	checkExpr(t, api.Expr{Op: "/", L: parts}, "( / ( + ( - ( * 3 ) ) ) ( - ( * 3 ) ) ( * 3 ) 3 )")
	conds := []api.Cond{{Kind: api.CondLet, Var: "a"}, {Kind: api.CondLet, Var: "b"}, halted()}
	conds[0].Over, conds[1].Over = conds[1:], conds[2:]
	checkCond(t, api.Cond{Kind: api.CondLet, Var: "c", Over: conds}, "( let ?c  ? ( ) ( ( let ?a  ? ( ) ( ( let ?b  ? ( ) ( ( halt ) ) ) ( halt ) ) ) ( let ?b  ? ( ) ( ( halt ) ) ) ( halt ) ) )")
	checkSame(t, printing(api.Expr{Op: "*", L: row}), printing(api.Expr{Op: "*", L: []api.Expr{two("+", num("1"), num("2")), two("+", num("1"), num("2"))}}), true)
}

// P12.1 (L2): of programs that hold themselves those are the same that are so in all, in the same memory and in unlike ones, whichever of their lists are one.
func TestSameThatHoldThemselves(t *testing.T) {
	for _, many := range []int{1, 2, 3, 6, 50} {
		p := printing(ring(many, nil)[0])
		checkSame(t, p, p, true)
		for _, other := range []int{1, 2, 3, 4, 6, 49, 50} {
			checkSame(t, p, printing(ring(other, nil)[0]), true)
			for at := range other {
				q := printing(ring(other, map[int]string{at: "2"})[0])
				checkSame(t, q, q, true)
				checkSame(t, p, q, false)
				checkSame(t, q, printing(ring(other, map[int]string{at: "2"})[0]), true)
				checkSame(t, q, printing(ring(2*other, map[int]string{at: "2", at + other: "2"})[0]), true)
				checkSame(t, q, printing(ring(2*other, map[int]string{at: "2"})[0]), false)
				checkSame(t, q, printing(ring(other, map[int]string{at: "3"})[0]), false)
			}
		}
	}
	a, b := counted("n", halted()), counted("n", halted())
	checkSame(t, counting(a), counting(a), true)
	checkSame(t, counting(a), counting(b), true)
	checkSame(t, counting(a), counting(b.Over[1]), true)
	checkSame(t, counting(a), counting(counted("m", halted())), false)
	checkSame(t, counting(a), counting(counted("n", halted(), halted())), false)
	b.Over[0].Pat.Tmpl = "other"
	checkSame(t, counting(a), counting(b), false)
	checkSame(t, counting(b), counting(b), true)
	checkSame(t, printing(itself("+", num("1"))), printing(two("+", num("1"), num("1"))), false)
	checkSame(t, printing(itself("+", num("1"))), printing(two("+", num("1"), two("+", num("1"), num("1")))), false)
}

// P12.1 (L2): what is in a list counts where it is not shown, too.
func TestSameThatHoldThemselvesUnseen(t *testing.T) {
	a, b := itself("", num("1")), itself("", num("2"))
	checkSame(t, printing(a), printing(a), true)
	checkSame(t, printing(a), printing(itself("", num("1"))), true)
	checkSame(t, printing(a), printing(b), false)
	is(t, show.Expr(a), "none")
	is(t, show.Expr(api.Expr{Op: "+", L: b.L}), "( + 2 none )")
	c, d := counted("n"), counted("n")
	c.Over[0].Kind, d.Over[0].Kind = api.CondNot, api.CondNot
	checkSame(t, counting(c.Over[0]), counting(d.Over[0]), true)
	d.Over[0].Arg = "z"
	checkSame(t, counting(c.Over[0]), counting(d.Over[0]), false)
}

// P12.1 (L2): two rules, and actions, of which just one holds itself, or holds another.
func TestSameAtEachPart(t *testing.T) {
	made := func(a, b, c, d api.Expr) api.Program {
		acts := []api.Act{{Kind: api.ActPrint, E: c}, {Kind: api.ActAssert, Fills: []api.Fill{{E: num("1")}, {E: d}}}}
		return api.Program{Rules: []api.Rule{{}, {Conds: []api.Cond{{Kind: api.CondIf, A: a, B: b}}, Acts: acts}}}
	}
	all := []api.Expr{num("1"), itself("+", num("1")), itself("+", num("2")), itself("-", num("1")), ring(2, nil)[0], two("+", num("1"), itself("+", num("1")))}
	kinds := []int{0, 1, 2, 3, 4, 1}
	for i, e := range all {
		for k, other := range all {
			for at := range 4 {
				l, o := []api.Expr{e, e, e, e}, []api.Expr{e, e, e, e}
				o[at] = other
				checkSame(t, made(l[0], l[1], l[2], l[3]), made(o[0], o[1], o[2], o[3]), kinds[i] == kinds[k])
			}
		}
	}
}

// P1, P3, P12.1: random ones that stand in one another, and some in themselves: what is shown, and what is the same, is as another one tells it, and does not hang on which lists are one.
func TestWebs(t *testing.T) {
	exprs, conds := exprSort(), condSort()
	themselves, lead := 0, 0
	for seed := range int64(1500) {
		m := newMaker(seed)
		many := 1 + m.Intn(7)
		a, b := checkWeb(t, webOf(m, exprs, many))
		c, d := checkWeb(t, webOf(m, conds, many))
		themselves, lead = themselves+a+c, lead+b+d
	}
	if themselves < 1000 || lead < 300 {
		t.Errorf("just %d stand in themselves, %d lead to such ones", themselves, lead)
	}
}

// P12.1 (L2): any two of two webs are the same just if another one tells so; those that are the same are shown alike.
func TestSameOfWebs(t *testing.T) {
	yes, no := 0, 0
	for seed := range int64(700) {
		m := newMaker(seed)
		a, b := sameOfWebs(t, m, exprSort())
		c, d := sameOfWebs(t, m, condSort())
		yes, no = yes+a+c, no+b+d
	}
	if yes < 2000 || no < 5000 {
		t.Errorf("just %d were the same, %d not", yes, no)
	}
}

// sameOfWebs checks that of two webs, the second of which may be nearly the first one; how many were the same, and how many not.
func sameOfWebs[T any](t *testing.T, m maker, s *sort[T]) (int, int) {
	t.Helper()
	w := webOf(m, s, 1+m.Intn(5))
	other := web[T]{s, slices.Clone(w.bare), slices.Clone(w.from), slices.Clone(w.to)}
	switch i := m.Intn(len(w.bare)); m.Intn(4) {
	case 0:
		other = webOf(m, s, 1+m.Intn(5))
	case 1:
		other.bare[i] = s.bare(m)
	case 2:
		other.from[i] = m.Intn(other.to[i] + 1)
	}
	kinds := w.both(other).kinds(true, func(one T) string { return fmt.Sprintf("%+v", one) })
	l, o, many := w.made(), other.made(), 0
	for i, a := range l {
		for k, b := range o {
			want := kinds[i] == kinds[len(l)+k]
			checkSame(t, s.in(a), s.in(b), want)
			if want {
				many++
				is(t, s.show(a), s.show(b))
			}
		}
	}
	return many, len(l)*len(o) - many
}

// P1: great ones that hold themselves have an end: long rings, wide lists, and lists of which all members hold them.
func TestGreatRings(t *testing.T) {
	const n = 150000
	alike, unlike := ring(n, nil), ring(n, map[int]string{n / 3: "2"})
	ends(t, "a ring", func() {
		is(t, show.Expr(api.Expr{Op: "-", L: alike[:2]}), "( - ( + ) 1 )")
		is(t, show.Expr(api.Expr{Op: "-", L: unlike[:2]}), "( - ( + ) 1 )")
		checkSame(t, printing(alike[0]), printing(ring(n-1, nil)[0]), true)
		checkSame(t, printing(unlike[0]), printing(ring(n, map[int]string{n / 3: "2"})[0]), true)
		checkSame(t, printing(alike[0]), printing(unlike[0]), false)
	})
	long := unlike[2]
	for range n {
		long = two("*", num("3"), long)
	}
	ends(t, "a long way into a ring", func() {
		is(t, show.Expr(long), times("( * 3 ", n)+"( + )"+times(" )", n))
		checkSame(t, printing(long), printing(long.L[1]), false)
	})
	ends(t, "a wide list", func() {
		l := slices.Repeat([]api.Expr{num("1")}, n)
		l[n/2] = api.Expr{Op: "+", L: l}
		is(t, show.Expr(api.Expr{Op: "-", L: l}), "( -"+times(" 1", n/2)+" ( + )"+times(" 1", n-n/2-1)+" )")
		checkSame(t, printing(l[n/2]), printing(api.Expr{Op: "+", L: slices.Clone(l)}), true)
	})
	ends(t, "a list of which all hold it", func() {
		l := make([]api.Expr, 20000)
		for i := range l {
			l[i] = api.Expr{Op: "+", L: l}
		}
		is(t, show.Expr(api.Expr{Op: "-", L: l}), "( -"+times(" ( + )", len(l))+" )")
		for i := range l {
			l[i].Op = strconv.Itoa(i)
		}
		is(t, show.Expr(api.Expr{Op: "-", L: l[100:103]}), "( - ( 100 ) ( 101 ) ( 102 ) )")
		checkSame(t, printing(l[3]), printing(api.Expr{Op: "3", L: slices.Clone(l)}), true)
		checkSame(t, printing(l[3]), printing(l[4]), false)
	})
	ends(t, "conditions", func() {
		l := make([]api.Cond, n)
		for i := range l {
			l[i] = api.Cond{Kind: api.CondLet, Var: "v", Over: l[(i+1)%n:][:1]}
		}
		is(t, show.Cond(l[5]), "( let ?v  ? ( ) ( ) )")
		checkSame(t, counting(l[5]), counting(l[7]), true)
	})
}

// P1, P12.1 (L2): lists that stand at very many places, as each stands twice in the next one, are told apart in few steps.
func TestSameOfDoubled(t *testing.T) {
	doubled := func(first api.Expr) api.Expr {
		for range 200 {
			first = two("+", first, first)
		}
		return first
	}
	ends(t, "Same", func() {
		checkSame(t, printing(doubled(num("1"))), printing(doubled(num("1"))), true)
		checkSame(t, printing(doubled(num("1"))), printing(doubled(num("2"))), false)
		checkSame(t, printing(doubled(itself("*", num("1")))), printing(doubled(itself("*", num("1")))), true)
		checkSame(t, printing(doubled(itself("*", num("1")))), printing(doubled(itself("*", num("2")))), false)
	})
	// What holds itself is shown without what is in it, so that this may be as great as it likes.
	ends(t, "Expr", func() { is(t, show.Expr(itself("*", doubled(itself("/", num("1"))))), "( * )") })
}

// P3: what holds itself is not changed, nor its spare room, and not kept; calls beside one another tell what each tells alone.
func TestHoldingNotChanged(t *testing.T) {
	room := make([]api.Expr, 5)
	for i := range room {
		room[i] = num(strconv.Itoa(i))
	}
	room[1].Op, room[1].L = "+", room[:3]
	was := slices.Clone(room)
	conds := make([]api.Cond, 4)
	conds[0] = api.Cond{Kind: api.CondLet, Var: "v", Over: conds[:2]}
	conds[1] = api.Cond{Kind: api.CondIf, A: room[1], B: num("1")}
	wasConds := slices.Clone(conds)
	p := api.Program{Rules: []api.Rule{{Name: "r", Conds: conds[:2], Acts: []api.Act{{Kind: api.ActPrint, E: room[1]}}}}}
	want := askAll(p)
	var all sync.WaitGroup
	for range 8 {
		all.Go(func() {
			for range 50 {
				if got := askAll(p); !slices.Equal(got, want) {
					t.Errorf("got %s, want %s", brief(got), brief(want))
				}
			}
		})
	}
	all.Wait()
	for i := range room {
		if room[i].Op != was[i].Op || room[i].T != was[i].T || len(room[i].L) != len(was[i].L) {
			t.Errorf("%d was changed", i)
		}
	}
	for i := range conds {
		if conds[i].Kind != wasConds[i].Kind || conds[i].Var != wasConds[i].Var || len(conds[i].Over) != len(wasConds[i].Over) || !reflect.DeepEqual(conds[i].By, wasConds[i].By) {
			t.Errorf("%d was changed", i)
		}
	}
	// It stands in itself no more.
	room[1].L = room[2:4]
	is(t, show.Act(api.Act{Kind: api.ActPrint, E: room[1]}), "( print ( + 2 3 ) )")
}

// P1, P12.1: any lists that stand in one another end, and are told as another one tells them.
func FuzzWebs(f *testing.F) {
	f.Add(int64(1), 3)
	f.Add(int64(77), 9)
	f.Fuzz(func(t *testing.T, seed int64, many int) {
		m := newMaker(seed)
		checkWeb(t, webOf(m, exprSort(), 1+(many&7)))
		checkWeb(t, webOf(m, condSort(), 1+(many&7)))
		sameOfWebs(t, m, exprSort())
		sameOfWebs(t, m, condSort())
	})
}
