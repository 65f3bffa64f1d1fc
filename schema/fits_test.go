package schema_test

import (
	"slices"
	"testing"

	"tribunal/api"
)

// P7.1 (G3): values of each slot's type fit.
func TestFits(t *testing.T) {
	s := made(t, few()...)
	for _, c := range []struct {
		name string
		vals []api.Value
		want api.Errno
	}{
		{"order", []api.Value{sym("ann"), num("3/2"), boolean("true"), text("a, b")}, api.OK},
		{"order", []api.Value{sym("none"), num("-1"), boolean("false"), text("")}, api.OK},
		{"order", []api.Value{num("3/2"), sym("ann"), boolean("true"), text("a, b")}, api.ErrType},
		{"order", []api.Value{text("ann"), num("3/2"), boolean("true"), text("a, b")}, api.ErrType},
		{"order", []api.Value{sym("ann"), num("3/2"), boolean("true"), {}}, api.ErrType},
		{"order", []api.Value{sym("ann"), num("3/2"), boolean("true")}, api.ErrArg},
		{"order", nil, api.ErrArg},
		{"empty", nil, api.OK},
		{"empty", []api.Value{}, api.OK},
		{"empty", []api.Value{{}}, api.ErrArg},
		{"note", []api.Value{num("7")}, api.OK},
		{"note", []api.Value{id("7")}, api.ErrType},
		{"note", []api.Value{num("07")}, api.ErrType},
		{"nothere", nil, api.ErrNone},
		{"", nil, api.ErrNone},
		{"by", []api.Value{num("7")}, api.ErrNone},
	} {
		checkFits(t, s, few(), c.name, c.vals, c.want)
	}
}

// P7.1 (G3): one slot of each type, and values of each kind, right or not.
func TestFitsOfOne(t *testing.T) {
	for _, kind := range kinds() {
		l := []api.Template{tmpl("t", kind)}
		s := made(t, l...)
		for other := api.None; other <= api.Set; other++ {
			for _, v := range ofKind(other) {
				want := api.ErrType
				if other == kind {
					want = api.OK
				}
				checkFits(t, s, l, "t", []api.Value{v}, want)
			}
		}
		for _, v := range wrongOfAll() {
			checkFits(t, s, l, "t", []api.Value{v}, api.ErrType)
		}
	}
}

// P7.1 (G3): one value that is not right, or of another kind, or both, at each place of eight.
func TestFitsAtEachPlace(t *testing.T) {
	types := []int{1, 2, 3, 4, 4, 3, 2, 1}
	l := []api.Template{tmpl("u", 1, 1), tmpl("t", types...)}
	s := made(t, l...)
	checkFits(t, s, l, "t", first(types...), api.OK)
	for i, kind := range types {
		for other := api.None; other <= api.Set; other++ {
			vals := first(types...)
			vals[i] = ofKind(other)[0]
			want := api.ErrType
			if other == kind {
				want = api.OK
			}
			checkFits(t, s, l, "t", vals, want)
			for _, v := range wrong(other) {
				vals[i] = v
				checkFits(t, s, l, "t", vals, api.ErrType)
			}
		}
	}
}

// P7.1 (G3): as many values as slots, fewer, and more.
func TestFitsHowMany(t *testing.T) {
	types := []int{1, 2, 3, 4, 4, 3, 2, 1}
	for n := range 9 {
		l := []api.Template{tmpl("u", 2), tmpl("t", types[:n]...)}
		s := made(t, l...)
		for m := range 18 {
			vals := first(append(slices.Clone(types), types...)[:min(m, 16)]...)
			if m == 17 {
				vals = slices.Repeat(vals, 1000)
			}
			want := api.ErrArg
			if m == n {
				want = api.OK
			}
			checkFits(t, s, l, "t", vals, want)
		}
	}
}

// P7.1 (G3), P2: where several errors apply, the one that is named first is told.
func TestFitsErrorsInOrder(t *testing.T) {
	l := []api.Template{tmpl("t", 1, 2), tmpl("empty")}
	s := made(t, l...)
	for _, v := range append(wrongOfAll(), id("1"), set("")) {
		checkFits(t, s, l, "nothere", []api.Value{v}, api.ErrNone)
		checkFits(t, s, l, "nothere", []api.Value{v, v}, api.ErrNone)
		checkFits(t, s, l, "not", nil, api.ErrNone)
		checkFits(t, s, l, "t", []api.Value{v}, api.ErrArg)
		checkFits(t, s, l, "t", []api.Value{num("1"), v, v}, api.ErrArg)
		checkFits(t, s, l, "t", []api.Value{v, v, num("1")}, api.ErrArg)
		checkFits(t, s, l, "t", nil, api.ErrArg)
		checkFits(t, s, l, "empty", []api.Value{v}, api.ErrArg)
		checkFits(t, s, l, "t", []api.Value{v, v}, api.ErrType)
		checkFits(t, s, l, "t", []api.Value{num("1"), v}, map[bool]api.Errno{true: api.ErrType, false: api.OK}[v.Kind != api.Text || !slices.Contains(ofKind(api.Text), v)])
	}
}

// P7.1 (G3): templates of many sorts, and values of which some are wrong, held against a second telling.
func TestFitsOfMany(t *testing.T) {
	r := newValues(2)
	for range 300 {
		l := r.templates(1 + r.Intn(6))
		s := made(t, l...)
		for range 30 {
			one := l[r.Intn(len(l))]
			var vals []api.Value
			for _, f := range one.Slots {
				kind, right := f.Type, r.Intn(20) > 0
				if r.Intn(20) == 0 {
					kind = r.Intn(7)
				}
				vals = append(vals, r.value(kind, right))
			}
			name := one.Name
			if r.Intn(10) == 0 {
				name = r.name()
			}
			vals = vals[:len(vals)-min(len(vals), max(0, r.Intn(12)-10))]
			checkFits(t, s, l, name, vals, model(l).fits(name, vals))
		}
	}
}
