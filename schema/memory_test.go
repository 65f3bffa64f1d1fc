package schema_test

import (
	"slices"
	"strconv"
	"testing"

	"tribunal/api"
	"tribunal/schema"
)

// P7.3 (own), P3: what New was given may be changed behind it, templates and slots, and the schema tells what it told.
func TestGivenIsNotKept(t *testing.T) {
	l, want := deep(few()), few()
	s := made(t, l...)
	for i := range l {
		for j := range l[i].Slots {
			l[i].Slots[j] = api.Field{Name: "changed", Type: api.Set}
			checkSchema(t, s, want)
		}
		l[i].Name = "changed"
		l[i].Slots = append(l[i].Slots, api.Field{Name: "more", Type: api.Num})
		checkSchema(t, s, want)
	}
}

// P3: what New was given stays as it is, and its spare room, with an error or without.
func TestGivenIsNotChanged(t *testing.T) {
	for _, l := range [][]api.Template{few(), many(16), many(17), append(few(), tmpl("order")), append(few(), tmpl("not", 1, 2)), append([]api.Template{tmpl("t", 9)}, few()...)} {
		spare := append(deep(l), tmpl("spare", api.Num), tmpl("more"))
		for i := range spare {
			spare[i].Slots = append(spare[i].Slots, api.Field{Name: "spare", Type: api.Sym}, api.Field{Name: "more", Type: 77})
		}
		before := deep(spare)
		for i := range spare {
			spare[i].Slots = spare[i].Slots[:len(spare[i].Slots)-2]
		}
		if s, _, _ := schema.New(spare[:len(l)]); s != nil {
			checkSchema(t, s, l)
		}
		for i := range spare {
			spare[i].Slots = spare[i].Slots[:len(spare[i].Slots)+2]
		}
		if !alike(spare, before) {
			t.Fatalf("New of %s changed it to %s", told(before), told(spare))
		}
	}
}

// P7.3 (own): what List told may be changed by who asked, templates, slots and spare room, and nothing is told otherwise behind that.
func TestListIsOwn(t *testing.T) {
	s := made(t, few()...)
	other := s.List()
	for range 3 {
		got := s.List()
		for i := range got {
			room := got[i].Slots[:cap(got[i].Slots)]
			for j := range room {
				room[j] = api.Field{Name: "changed", Type: 9}
			}
		}
		clearAll(got[:cap(got)])
		checkSchema(t, s, few())
		if !alike(other, few()) {
			t.Fatalf("two lists share memory: %s", told(other))
		}
	}
}

// clearAll makes each of l another one.
func clearAll(l []api.Template) {
	for i := range l {
		l[i] = tmpl("changed", 9, 9)
	}
}

// P7.3 (own): what Find told may be changed by who asked, slots and spare room, and nothing is told otherwise behind that.
func TestFoundIsOwn(t *testing.T) {
	s := made(t, few()...)
	for _, one := range few() {
		other, _ := s.Find(one.Name)
		for range 3 {
			got, _ := s.Find(one.Name)
			got.Name = "changed"
			room := got.Slots[:cap(got.Slots)]
			for j := range room {
				room[j] = api.Field{Name: "changed", Type: 9}
			}
			checkSchema(t, s, few())
			if !alikeOne(other, one) {
				t.Fatalf("two answers share memory: %s", told([]api.Template{other}))
			}
		}
	}
}

// P7.3 (own): lists of one answer share no memory, though what New was given shares some.
func TestSlotsAlone(t *testing.T) {
	shared := tmpl("t", 1, 2, 3, 4).Slots
	l := []api.Template{{Name: "t", Slots: shared}, {Name: "u", Slots: shared}, {Name: "v", Slots: shared[:2]}, {Name: "w", Slots: shared[2:]}}
	s := made(t, l...)
	want := deep(l)
	got := s.List()
	for i := range got {
		room := got[i].Slots[:cap(got[i].Slots)]
		for j := range room {
			room[j].Name += strconv.Itoa(i)
		}
	}
	for i := range got {
		for j, f := range got[i].Slots {
			if f.Name != want[i].Slots[j].Name+strconv.Itoa(i) {
				t.Fatalf("slot %d of %d: got %s", j, i, f.Name)
			}
		}
	}
	shared[0], shared[3] = api.Field{Name: "none"}, api.Field{Name: "none"}
	checkSchema(t, s, want)
}

// P3: Fits changes none of the values that it is given, nor their spare room, and keeps none.
func TestValuesAreNotChanged(t *testing.T) {
	s := made(t, few()...)
	vals := []api.Value{sym("ann"), num("3/2"), boolean("true"), text("a, b"), num("spare"), id("x")}
	before := slices.Clone(vals)
	for n := range len(vals) {
		for _, name := range []string{"order", "empty", "note", "nothere", "a1"} {
			checkFits(t, s, few(), name, vals[:n], model(few()).fits(name, vals[:n]))
			if !slices.Equal(vals, before) {
				t.Fatalf("Fits of %s with %d values changed them", name, n)
			}
		}
	}
	vals[0] = num("1")
	checkFits(t, s, few(), "order", vals[:4], api.ErrType)
	vals[0] = sym("bob")
	checkFits(t, s, few(), "order", vals[:4], api.OK)
}

// P3: schemas have nothing in common, and one stays as it is whatever is made, or asked, behind it.
func TestSchemasAlone(t *testing.T) {
	r := newValues(7)
	var all []*schema.Schema
	var given []model
	for range 30 {
		l := r.templates(r.Intn(17))
		all, given = append(all, made(t, l...)), append(given, l)
		schema.New(append(deep(l), l...))
		schema.New([]api.Template{tmpl("not")})
	}
	for range 2 {
		for i, s := range all {
			checkSchema(t, s, given[i])
		}
	}
}

// P1, P2: any calls end, without a panic, and are as another one tells them.
func FuzzCalls(f *testing.F) {
	f.Add("order", "by", "total", 1, 2, 0, "3/2", []byte{0, 1, 2, 3})
	f.Add("not", "none", "", 3, 4, 1, "red", []byte{2, 9, 40, 77, 1})
	f.Add("t", "t", "t", 4, 1, 2, "true", []byte{255, 128, 0, 254, 127, 1, 1, 129})
	f.Add("a", "as", "b", 0, 6, 4, "\"", []byte("one, and two, and three of them"))
	f.Add("", "\xff", "1a", -1, 5, 5, "", []byte{})
	f.Fuzz(func(t *testing.T, a, b, c string, k, m, n int, v string, shape []byte) {
		names, types := []string{a, b, c, a + "x", b + "1", c + a}, []int{k, m, n, 1, 2, 3, 4}
		l := shaped(names, types, shape)
		want, place := model(l).fault()
		s, err, at := schema.New(l)
		if err != want || at != place || (s == nil) != (err != api.OK) {
			t.Fatalf("New of %s: got %d, %d, want %d, %d", told(l), err, at, want, place)
		}
		if s == nil {
			return
		}
		checkSchema(t, s, l)
		vals := []api.Value{{Kind: k, S: v}, {Kind: m, S: v}, {Kind: n, S: a}, num(v), text(v), sym(v), boolean(v), id(v)}
		for _, name := range names {
			checkSlot(t, s, l, name, v)
			for many := range vals {
				checkFits(t, s, l, name, vals[:many], model(l).fits(name, vals[:many]))
				checkFits(t, s, l, name, vals[many:], model(l).fits(name, vals[many:]))
			}
		}
	})
}

// shaped is templates of those names and types: a byte of shape is one more slot, or, if it is a multiple of 4, a new template.
func shaped(names []string, types []int, shape []byte) []api.Template {
	var l []api.Template
	for _, x := range shape[:min(len(shape), 60)] {
		name := names[int(x/4)%len(names)]
		if x%4 == 0 || len(l) == 0 {
			l = append(l, api.Template{Name: name})
			continue
		}
		one := &l[len(l)-1]
		one.Slots = append(one.Slots, api.Field{Name: name, Type: types[int(x)%len(types)]})
	}
	return l
}
