package bind_test

import (
	"reflect"
	"slices"
	"sync"
	"testing"
	"time"

	"tribunal/api"
	"tribunal/bind"
)

// copied is a thing of the same, with lists of its own, that have so much spare room, in which something stands.
func copied[T any](thing T, room ...int) T {
	v := reflect.New(reflect.TypeOf(thing)).Elem()
	copyIn(v, reflect.ValueOf(thing), len(room))
	return v.Interface().(T)
}

// roomy is copied, with spare room.
func roomy[T any](thing T) T { return copied(thing, 1, 2, 3) }

func copyIn(to, from reflect.Value, room int) {
	switch {
	case from.Kind() == reflect.Struct:
		for i := range from.NumField() {
			copyIn(to.Field(i), from.Field(i), room)
		}
	case from.Kind() == reflect.Slice && (room > 0 || !from.IsNil()):
		l := reflect.MakeSlice(from.Type(), from.Len()+room, from.Len()+room)
		for i := range from.Len() {
			copyIn(l.Index(i), from.Index(i), room)
		}
		for i := from.Len(); i < l.Len(); i++ {
			spoil(l.Index(i), "spare", 77)
		}
		to.Set(l.Slice(0, from.Len()))
	default:
		to.Set(from)
	}
}

// spoil puts something into all texts and numbers of a thing, and of its lists, and into their spare room.
func spoil(v reflect.Value, s string, n int64) {
	switch v.Kind() {
	case reflect.Struct:
		for i := range v.NumField() {
			spoil(v.Field(i), s, n)
		}
	case reflect.Slice:
		for i := range v.Cap() {
			spoil(v.Slice(0, v.Cap()).Index(i), s, n)
		}
	case reflect.String:
		v.SetString(s)
	case reflect.Int:
		v.SetInt(n)
	}
}

// spoilt puts something into a thing, by where it stands.
func spoilt[T any](thing *T) { spoil(reflect.ValueOf(thing).Elem(), "spoilt", -77) }

// whole is all that a thing's lists have, with their spare room, and where they stand.
func whole(v reflect.Value) any {
	switch v.Kind() {
	case reflect.Struct:
		var l []any
		for i := range v.NumField() {
			l = append(l, whole(v.Field(i)))
		}
		return l
	case reflect.Slice:
		l := []any{v.Len(), v.Cap(), v.Pointer()}
		for i := range v.Cap() {
			l = append(l, whole(v.Slice(0, v.Cap()).Index(i)))
		}
		return l
	}
	return v.Interface()
}

// span is where a list stands, with its spare room.
type span struct{ from, to uintptr }

// spans is where each list of a thing stands, also those in lists; none of a list without room.
func spans(v reflect.Value) []span {
	var l []span
	switch v.Kind() {
	case reflect.Struct:
		for i := range v.NumField() {
			l = append(l, spans(v.Field(i))...)
		}
	case reflect.Slice:
		if v.Cap() > 0 {
			l = append(l, span{v.Pointer(), v.Pointer() + uintptr(v.Cap())*v.Type().Elem().Size()})
		}
		for i := range v.Cap() {
			l = append(l, spans(v.Slice(0, v.Cap()).Index(i))...)
		}
	}
	return l
}

// alone fails, unless each list of an answer stands in memory of its own: not in that of another one, nor of an argument.
func alone(t *testing.T, answer any, arguments ...any) {
	t.Helper()
	own := spans(reflect.ValueOf(answer))
	all := slices.Clone(own)
	for _, a := range arguments {
		all = append(all, spans(reflect.ValueOf(a))...)
	}
	for i, x := range own {
		for k, y := range all {
			if k != i && x.from < y.to && y.from < x.to {
				t.Fatalf("%s shares memory, with itself or with %s", brief(answer), brief(arguments))
			}
		}
	}
}

// given is all that calls are handed.
type given struct {
	A, B  api.Tuple
	L     []api.Tuple
	Name  string
	V     api.Value
	P     api.Pat
	As    string
	F     api.Fact
	Tmpls []api.Template
}

// answers is all that calls tell of what they are handed.
type answers struct {
	Right             bool
	Text              string
	Cmp               int
	Sorted            []api.Tuple
	With, Merge       api.Tuple
	Match             api.Tuple
	IsWith, IsMerge   bool
	IsMatch, MatchToo bool
}

func ask(t testing.TB, g given) answers {
	s := made(t, g.Tmpls)
	a := answers{Right: bind.Right(g.A), Text: bind.Text(g.A), Cmp: bind.Cmp(g.A, g.B), Sorted: bind.Sort(g.L)}
	a.With, a.IsWith = bind.With(g.A, g.Name, g.V)
	a.Merge, a.IsMerge = bind.Merge(g.A, g.B)
	a.Match, a.IsMatch = bind.Match(s, g.P, g.As, g.F)
	_, a.MatchToo = bind.Match(s, g.P, "", g.F)
	return a
}

// gives is what calls may be handed: right tuples, or ones that rise.
func (m maker) gives() given {
	g := given{A: m.tuple(), B: m.tuple(), Name: m.name(), V: m.value(), As: m.as(), F: m.fact(), Tmpls: few()}
	if m.Intn(4) == 0 {
		g.A, g.B = m.rising(), m.rising()
		g.Name = nameFor(m, g.A)
	}
	if m.Intn(2) == 0 {
		g.V = at(g.A, g.Name)
	}
	g.P = m.pat(g.F)
	for range m.Intn(6) {
		g.L = append(g.L, m.tuple())
	}
	return g
}

// told is answers in which lists of none are nil, and the others are copies.
func told(a answers) answers {
	tidy := func(t *api.Tuple) {
		t.Binds, t.Ids = append([]api.Bind(nil), t.Binds...), append([]int(nil), t.Ids...)
	}
	a.Sorted = append([]api.Tuple(nil), a.Sorted...)
	for i := range a.Sorted {
		tidy(&a.Sorted[i])
	}
	tidy(&a.With)
	tidy(&a.Merge)
	tidy(&a.Match)
	return a
}

// P3: what is handed in is not changed, nor its spare room: Binds, Ids, a pattern's slots and a fact's values.
func TestNotChanged(t *testing.T) {
	m := newMaker(18)
	for range 4000 {
		g := m.gives()
		room := roomy(g)
		was := whole(reflect.ValueOf(room))
		got := told(ask(t, room))
		if !reflect.DeepEqual(whole(reflect.ValueOf(room)), was) {
			t.Fatalf("%s: changed, or its spare room", brief(g))
		}
		if want := told(ask(t, g)); !reflect.DeepEqual(got, want) {
			t.Fatalf("%s: got %s, without spare room %s", brief(g), brief(got), brief(want))
		}
	}
}

// P3: no list of an answer shares memory with an argument, with another list of the answer, nor with another answer.
func TestAlone(t *testing.T) {
	m := newMaker(19)
	for range 4000 {
		g := m.gives()
		if m.Intn(2) == 0 {
			g = roomy(g)
		}
		first, other := ask(t, g), ask(t, g)
		alone(t, first, g, other)
	}
}

// P3: tuples that share lists come out of Sort, and of Merge with itself, with lists of their own.
func TestAloneOfShared(t *testing.T) {
	row := ones("a=1 b=2 c=3").Binds
	ids := []int{1, 2, 3}
	var l []api.Tuple
	for i := range 4 {
		l = append(l, api.Tuple{Binds: row[:i], Ids: ids[i:]}, api.Tuple{Binds: row[i:], Ids: ids[:i]}, api.Tuple{Binds: row, Ids: ids})
	}
	got := bind.Sort(l)
	alone(t, got, l)
	want := copied(got)
	for i := range got {
		spoilt(&got[i])
		for k := i + 1; k < len(got); k++ {
			if !alike(got[k], want[k]) {
				t.Fatalf("%d and %d share memory", i, k)
			}
		}
	}
	for _, one := range l {
		merged, _ := bind.Merge(one, one)
		alone(t, merged, one)
		more, _ := bind.With(one, "b", num("2"))
		alone(t, more, one)
	}
}

// P3: what is told is the asker's own: changed, and grown, nothing is told otherwise behind that, nor is what was handed in another one.
func TestToldIsOwn(t *testing.T) {
	m := newMaker(20)
	for range 4000 {
		g := roomy(m.gives())
		was := whole(reflect.ValueOf(g))
		first := ask(t, g)
		want := told(first)
		spoilt(&first)
		first.Merge.Ids = append(first.Merge.Ids, 1)
		first.Merge.Binds = append(first.Merge.Binds, to("x", num("1")))
		if !reflect.DeepEqual(whole(reflect.ValueOf(g)), was) {
			t.Fatalf("%s: changed by what was told", brief(g))
		}
		if again := told(ask(t, g)); !reflect.DeepEqual(again, want) {
			t.Fatalf("%s: got %s, and then %s", brief(g), brief(want), brief(again))
		}
	}
}

// P3: what is handed in is not kept: when it is changed behind the call, what was told stays; the same is told again, whatever is asked between.
func TestNotKept(t *testing.T) {
	m := newMaker(21)
	for range 4000 {
		g := roomy(m.gives())
		other := copied(g)
		first := ask(t, g)
		want := told(first)
		ask(t, m.gives())
		spoilt(&g)
		if got := told(first); !reflect.DeepEqual(got, want) {
			t.Fatalf("%s: got %s, and then %s", brief(other), brief(want), brief(got))
		}
		if again := told(ask(t, other)); !reflect.DeepEqual(again, want) {
			t.Fatalf("%s: got %s, and then %s", brief(other), brief(want), brief(again))
		}
	}
}

// P3: Match leaves the schema as it was.
func TestSchemaStays(t *testing.T) {
	m, s := newMaker(22), made(t, few())
	for range 500 {
		f := m.fact()
		got, _ := bind.Match(s, m.pat(f), m.as(), f)
		spoilt(&got)
	}
	if !reflect.DeepEqual(s.List(), made(t, few()).List()) {
		t.Errorf("got %s", brief(s.List()))
	}
}

// P3: calls beside one another, of the same things, tell what each tells alone.
func TestBeside(t *testing.T) {
	m := newMaker(23)
	var gives []given
	var wants []answers
	for range 50 {
		g := roomy(m.gives())
		gives, wants = append(gives, g), append(wants, told(ask(t, g)))
	}
	var all sync.WaitGroup
	for range 8 {
		all.Go(func() {
			for i, g := range gives {
				if got := told(ask(t, g)); !reflect.DeepEqual(got, wants[i]) {
					t.Errorf("%s: got %s, want %s", brief(g), brief(got), brief(wants[i]))
				}
			}
		})
	}
	all.Wait()
}

// P1: very long rows, names and patterns are told at once.
func TestVeryLong(t *testing.T) {
	begin := time.Now()
	const many = 200000
	var a, b api.Tuple
	for i, name := range numbered(many) {
		if i%3 != 0 {
			a.Binds = append(a.Binds, to(name, num("1")))
		}
		if i%3 != 1 {
			b.Binds = append(b.Binds, to(name, num("1")))
		}
		a.Ids, b.Ids = append(a.Ids, i+1), append(b.Ids, i+1)
	}
	got, is := checkMerge(t, a, b)
	if !is || len(got.Binds) != many || !bind.Right(got) || bind.Cmp(a, b) != 1 || bind.Cmp(b, a) != -1 {
		t.Fatalf("got %s, %v", brief(got), is)
	}
	checkWith(t, a, "x1100000", num("1"))
	checkWith(t, a, times("y", 1<<20), text(times("z", 1<<20)))
	texts(t, a, textOf(a))
	var asked, other []api.Slot
	for _, name := range numbered(many) {
		asked, other = append(asked, asks("a", name)), append(other, asks("b", name))
	}
	slices.Reverse(asked)
	f := fact(1, "pair", num("1"), num("2"))
	if got, is := checkMatch(t, pat("pair", asked...), "f", f); !is || len(got.Binds) != many+1 {
		t.Errorf("got %s, %v", brief(got), is)
	}
	misses(t, pat("pair", append(asked, other...)...), "f", f)
	misses(t, pat("pair", append(asked, asks("c", "x"))...), "f", f)
	var l []api.Tuple
	for i := range many {
		l = append(l, on(ones("x=1"), many-i, i+1))
	}
	row := bind.Sort(l)
	slices.Reverse(l)
	if !slices.EqualFunc(row, l, alike) {
		t.Error("not in order")
	}
	if took := time.Since(begin); took > time.Minute {
		t.Errorf("%v", took)
	}
}

// P1: Sort of any tuples, also of those of which Cmp makes no order, ends, and tells each of them once.
func TestSortOfWrong(t *testing.T) {
	m := newMaker(24)
	wrong := []api.Value{num("10"), num("1x"), num("9"), num("09"), id("10"), id("1x"), id("9")}
	for range 300 {
		var l []api.Tuple
		for range m.Intn(60) {
			l = append(l, of(to("x", one(m, wrong...))), m.any())
		}
		got := bind.Sort(l)
		count := map[string]int{}
		for i := range l {
			count[brief(l[i].Binds)+brief(l[i].Ids)]++
		}
		for i := range got {
			count[brief(got[i].Binds)+brief(got[i].Ids)]--
		}
		for s, n := range count {
			if n != 0 || len(got) != len(l) {
				t.Fatalf("%s: %d", s, n)
			}
		}
	}
}

// tupled is a tuple out of bytes: each one a variable, with a value, or a fact's number.
func tupled(code []byte, names []string, vals []api.Value) api.Tuple {
	var t api.Tuple
	for i, c := range code[:min(len(code), 12)] {
		if c%4 == 3 {
			t.Ids = append(t.Ids, int(int8(c))/4)
			continue
		}
		t.Binds = append(t.Binds, to(names[int(c/4)%len(names)], vals[(int(c)+i)%len(vals)]))
	}
	return t
}

// rowed is a tuple with its variables in order, each once.
func rowed(t api.Tuple) api.Tuple {
	t.Binds = inRow(byNames(t.Binds))
	return t
}

// P1, P14.1: any tuples, patterns and facts end, without a panic, and are as another one tells them.
func FuzzBind(f *testing.F) {
	f.Add("x", "a", "1", 1, []byte{0, 4, 8, 3, 7}, []byte{0, 12, 3})
	f.Add("", "\xff", "true", 4, []byte{1, 255, 254, 0}, []byte{1, 255})
	f.Add("A", "x", "a, b", 2, []byte{}, []byte{9, 9, 9})
	f.Add("by", "a", "red", 3, []byte{77, 78, 79, 80}, []byte{77, 78, 80, 81})
	f.Fuzz(func(t *testing.T, a, b, s string, kind int, one, two []byte) {
		names := []string{a, b, "a", "x", a + "1", "zz"}
		vals := []api.Value{{Kind: kind, S: s}, num("1"), num(s), text(s), sym(s), {}, id("7")}
		x, y := tupled(one, names, vals), tupled(two, names, vals)
		rightly(t, x, isRight(x))
		texts(t, x, textOf(x))
		bind.With(x, b, vals[0])
		bind.Merge(x, y)
		if got := bind.Cmp(x, y); got != order(x, y) || got != -bind.Cmp(y, x) {
			t.Fatalf("%s and %s: got %d", brief(x), brief(y), got)
		}
		x, y = rowed(x), rowed(y)
		checkWith(t, x, b, vals[0])
		checkMerge(t, x, y)
		p, fields := api.Pat{Tmpl: "wide"}, few()[4].Slots
		for i, v := range x.Binds {
			p.Slots = append(p.Slots, asks(fields[(i+len(two))%8].Name, v.Name), has(fields[i%8].Name, v.V))
		}
		f := fact(len(one)-3, "wide", num("1"), text(s), sym("a"), boolean("true"), vals[2], text("a"), vals[4], boolean("false"))
		checkMatch(t, p, a, f)
		p.Slots = slices.DeleteFunc(p.Slots, func(s api.Slot) bool { return s.T.Var == "" })
		checkMatch(t, p, b, f)
	})
}
