package show_test

import (
	"fmt"
	"reflect"
	"strings"
	"testing"

	"tribunal/api"
	"tribunal/show"
)

// checkSame fails, unless Same tells of two programs what is wanted, whichever is the first.
func checkSame(t *testing.T, a, b api.Program, want bool) {
	t.Helper()
	if show.Same(a, b) != want || show.Same(b, a) != want {
		t.Fatalf("%s and %s: got %t and %t, want %t", brief(a), brief(b), show.Same(a, b), show.Same(b, a), want)
	}
}

// copied is a thing of the same, with lists of its own.
func copied[T any](thing T) T {
	v := reflect.New(reflect.TypeOf(thing)).Elem()
	copyIn(v, reflect.ValueOf(thing))
	return v.Interface().(T)
}

func copyIn(to, from reflect.Value) {
	switch from.Kind() {
	case reflect.Struct:
		for i := range from.NumField() {
			copyIn(to.Field(i), from.Field(i))
		}
	case reflect.Slice:
		if from.IsNil() {
			return
		}
		to.Set(reflect.MakeSlice(from.Type(), from.Len(), from.Len()))
		for i := range from.Len() {
			copyIn(to.Index(i), from.Index(i))
		}
	default:
		to.Set(from)
	}
}

// eachChange does all changes that make a thing another one in one place, one by one, and undoes each of them once it was told.
func eachChange(v reflect.Value, place string, tell func(place string)) {
	switch v.Kind() {
	case reflect.Struct:
		for i := range v.NumField() {
			eachChange(v.Field(i), place+"."+v.Type().Field(i).Name, tell)
		}
	case reflect.String:
		s := v.String()
		others := []string{s + "x", "x" + s, "", s[:len(s)/2] + "\x01", strings.ToUpper(s)}
		for _, other := range others {
			if other != s {
				changeTo(v, reflect.ValueOf(other), place, tell)
			}
		}
	case reflect.Int:
		n := int(v.Int())
		for _, other := range []int{n + 1, n - 1, n + 1<<32, n + 1<<8, -n, 0} {
			if other != n {
				changeTo(v, reflect.ValueOf(other), place, tell)
			}
		}
	case reflect.Slice:
		eachListChange(v, place, tell)
	}
}

// changeTo puts another thing at a place, tells that, and puts back what was there.
func changeTo(v, other reflect.Value, place string, tell func(place string)) {
	was := reflect.New(v.Type()).Elem()
	was.Set(v)
	v.Set(other)
	tell(fmt.Sprintf("%s = %s", place, brief(other)))
	v.Set(was)
}

// eachListChange does so for a list, and for what is in it.
func eachListChange(v reflect.Value, place string, tell func(place string)) {
	part := func(from, to int) reflect.Value { return v.Slice3(from, to, to) }
	many := v.Len()
	changeTo(v, reflect.AppendSlice(part(0, many), reflect.MakeSlice(v.Type(), 1, 1)), place, tell)
	for i := range many {
		eachChange(v.Index(i), fmt.Sprintf("%s[%d]", place, i), tell)
		changeTo(v, reflect.AppendSlice(part(0, i), part(i+1, many)), place, tell)
		changeTo(v, reflect.AppendSlice(part(0, i+1), part(i, many)), place, tell)
		if i > 0 && !same(v.Index(i).Interface(), v.Index(i-1).Interface()) {
			swap := reflect.Swapper(v.Interface())
			swap(i-1, i)
			tell(fmt.Sprintf("%s, %d ahead", place, i))
			swap(i-1, i)
		}
	}
}

// fullProgram has something at each place that a program has, whatever its kinds.
func fullProgram() api.Program {
	term := api.Term{Var: "t", V: of(api.Num, "1")}
	deep := api.Expr{Op: "*", T: term, L: []api.Expr{{T: term}, {Op: "-", L: []api.Expr{num("2"), named("u")}}, {T: api.Term{V: of(api.Sym, "w")}}}}
	e := api.Expr{Op: "+", T: term, L: []api.Expr{deep, num("3")}}
	pat := api.Pat{Tmpl: "p", Slots: []api.Slot{{Name: "x", T: term}, {Name: "y", T: api.Term{Var: "z"}}}}
	inner := api.Cond{Kind: 1, As: "i", Pat: pat, Op: ">", A: deep, B: num("4"), Var: "j", Fold: "max", Arg: "k", By: []string{"l"}, Over: []api.Cond{{Kind: 2, Pat: pat}}}
	r := api.Rule{Name: "r", Salience: 5}
	for kind := range 6 {
		r.Conds = append(r.Conds, api.Cond{Kind: kind, As: "f", Pat: pat, Op: "<", A: e, B: deep, Var: "v", Fold: "sum", Arg: "a", By: []string{"b", "c"}, Over: []api.Cond{inner, {Kind: 3}, inner}})
	}
	for kind := range 7 {
		r.Acts = append(r.Acts, api.Act{Kind: kind, Tmpl: "q", Var: "g", Fills: []api.Fill{{Name: "m", E: e}, {Name: "n", E: deep}}, E: e})
	}
	slots := []api.Field{{Name: "x", Type: 1}, {Name: "y", Type: 4}, {Name: "x", Type: 0}}
	return api.Program{Tmpls: []api.Template{{Name: "a", Slots: slots}, {Name: "b"}, {Name: "b", Slots: slots[:1]}}, Rules: []api.Rule{r, {Name: "s"}}}
}

// P12.1 (L2): of two programs that differ in just one place, for each place, in what is shown and in what is not.
func TestEachPlace(t *testing.T) {
	p := fullProgram()
	checkSame(t, p, p, true)
	checkSame(t, p, copied(p), true)
	changed, many := copied(p), 0
	eachChange(reflect.ValueOf(&changed).Elem(), "", func(place string) {
		many++
		if show.Same(p, changed) || show.Same(changed, p) {
			t.Fatalf("a program is the same as with %s", place)
		}
	})
	if many < 5000 || !same(p, changed) {
		t.Fatalf("%d changes, and not all undone", many)
	}
}

// P12.1 (L2): random programs, such as no text has among them, and each one's changes.
func TestRandomSame(t *testing.T) {
	for _, m := range []maker{newMaker(1), newWildMaker(2)} {
		for range 60 {
			p := m.program()
			changed := copied(p)
			checkSame(t, p, changed, true)
			eachChange(reflect.ValueOf(&changed).Elem(), "", func(place string) {
				if show.Same(p, changed) || show.Same(changed, p) {
					t.Fatalf("%s: the same as with %s", brief(p), place)
				}
			})
		}
		for range 3000 {
			p, q := m.program(), m.program()
			checkSame(t, p, q, same(p, q))
			checkSame(t, p, p, true)
		}
	}
}

// P12.1 (L2): few and small programs, held two and two against each other.
func TestSameTwoAndTwo(t *testing.T) {
	a, b := api.Template{Name: "a"}, api.Template{Name: "b"}
	r, s := api.Rule{Name: "a"}, api.Rule{Name: "b"}
	l := []api.Program{
		{}, {Tmpls: []api.Template{a}}, {Tmpls: []api.Template{b}}, {Rules: []api.Rule{r}}, {Rules: []api.Rule{s}}, {Tmpls: []api.Template{{}}}, {Rules: []api.Rule{{}}},
		{Tmpls: []api.Template{a}, Rules: []api.Rule{r}}, {Tmpls: []api.Template{a, b}}, {Tmpls: []api.Template{b, a}}, {Tmpls: []api.Template{a, a}}, {Tmpls: []api.Template{a, b, a}},
		{Rules: []api.Rule{r, s}}, {Rules: []api.Rule{s, r}}, {Rules: []api.Rule{r, r}}, {Rules: []api.Rule{r, r, r}}, {Tmpls: []api.Template{b}, Rules: []api.Rule{s}},
	}
	for i, p := range l {
		for j, q := range l {
			checkSame(t, p, q, i == j)
		}
	}
}

// P12.1 (L2): expressions of the same terms, otherwise in one another.
func TestSameShapes(t *testing.T) {
	of := func(l ...api.Expr) api.Expr { return api.Expr{Op: "+", L: l} }
	x := named("x")
	shapes := []api.Expr{x, of(), of(x), of(of(x)), of(x, x), of(of(x), x), of(x, of(x)), of(of(x, x)), of(x, x, x), of(of(x, x), x), of(x, of(x, x)), of(of(x), of(x)), of(of(), x), of(x, of()), of(of(of(x)))}
	for i, e := range shapes {
		for j, other := range shapes {
			checkSame(t, printing(e), printing(copied(other)), i == j)
		}
	}
	let := func(l ...api.Cond) api.Cond { return api.Cond{Kind: api.CondLet, Over: l} }
	y := api.Cond{Kind: api.CondNot}
	conds := []api.Cond{y, let(), let(y), let(let(y)), let(y, y), let(let(y), y), let(y, let(y)), let(let(y, y)), let(let(), y), let(y, let()), let(let(y), let(y)), let(let(let(y)))}
	for i, c := range conds {
		for j, other := range conds {
			checkSame(t, api.Program{Rules: []api.Rule{{Conds: []api.Cond{c}}}}, api.Program{Rules: []api.Rule{{Conds: []api.Cond{copied(other)}}}}, i == j)
		}
	}
}

// eachEmpty makes each empty list of a thing one that is nil, one that is none, and one with spare room, one by one, and leaves them as the last one.
func eachEmpty(v reflect.Value, tell func()) {
	switch v.Kind() {
	case reflect.Struct:
		for i := range v.NumField() {
			eachEmpty(v.Field(i), tell)
		}
	case reflect.Slice:
		for i := range v.Len() {
			eachEmpty(v.Index(i), tell)
		}
		if v.Len() == 0 {
			for _, empty := range []reflect.Value{reflect.Zero(v.Type()), reflect.MakeSlice(v.Type(), 0, 0), reflect.MakeSlice(v.Type(), 0, 3)} {
				v.Set(empty)
				tell()
			}
		}
	}
}

// P12.1 (L2): nil and empty lists are the same, at each place; they are shown so, too.
func TestEmptyLists(t *testing.T) {
	p := api.Program{Tmpls: []api.Template{{Name: "a"}}, Rules: []api.Rule{{Name: "r"}, {Name: "s", Conds: []api.Cond{{Kind: 1}, {Kind: 2}, {Kind: 3}, {Kind: 4}}, Acts: []api.Act{{Kind: 1}, {Kind: 3}, {Kind: 4, E: api.Expr{Op: "+"}}, {Kind: 1, Fills: []api.Fill{{}}}}}}}
	for _, p := range []api.Program{{}, p, {Tmpls: p.Tmpls}, {Rules: p.Rules}} {
		other, want, many := copied(p), told(p), 0
		eachEmpty(reflect.ValueOf(&other).Elem(), func() {
			many++
			checkSame(t, p, other, true)
			checkSame(t, other, copied(other), true)
			is(t, show.Show(other), want)
		})
		if many < 6 {
			t.Fatalf("%v: just %d", p, many)
		}
	}
}
