package schema_test

import (
	"strconv"
	"testing"

	"tribunal/api"
)

// P7.1 (G1): the document's example, alone and behind another one.
func TestExample(t *testing.T) {
	checkNew(t, []api.Template{tmpl("not")}, api.ErrForm, 0)
	checkNew(t, []api.Template{tmpl("a"), tmpl("not", api.Num)}, api.ErrForm, 1)
}

// P7.1 (G1): New of no template, and of a few.
func TestNew(t *testing.T) {
	checkNew(t, nil, api.OK, 0)
	checkNew(t, []api.Template{}, api.OK, 0)
	for i := range few() {
		checkNew(t, few()[:i+1], api.OK, 0)
		checkNew(t, few()[i:], api.OK, 0)
		checkNew(t, few()[i:i+1], api.OK, 0)
	}
}

// P7.1 (G1): New of as many templates as there may be, of fewer, and of more, whatever is wrong with them.
func TestHowMany(t *testing.T) {
	for n := range 17 {
		checkNew(t, many(n), api.OK, 0)
	}
	for _, n := range []int{17, 18, 32, 1000, 100000} {
		checkNew(t, many(n), api.ErrTooMany, 16)
		checkNew(t, make([]api.Template, n), api.ErrTooMany, 16)
	}
	for i := range 17 {
		l := many(17)
		l[i] = tmpl("not")
		checkNew(t, l, api.ErrTooMany, 16)
		l[i] = l[(i+1)%17]
		checkNew(t, l, api.ErrTooMany, 16)
		l[i] = tmpl("t", 9)
		checkNew(t, l, api.ErrTooMany, 16)
	}
	for i := range 16 {
		l := many(16)
		l[i] = tmpl("not")
		checkNew(t, l, api.ErrForm, i)
		checkNew(t, l[:i+1], api.ErrForm, i)
		checkNew(t, l[:i], api.OK, 0)
	}
}

// P7.1 (G1): a template without slots, with as many as there may be, and with more, each of them right, or not.
func TestHowManySlots(t *testing.T) {
	for n := range 26 {
		one := tmpl("t")
		for i := range n {
			one.Slots = append(one.Slots, api.Field{Name: string(rune('a' + i)), Type: 1 + i%4})
		}
		want := api.OK
		if n > 8 {
			want = api.ErrForm
		}
		checkNew(t, []api.Template{one}, want, 0)
	}
	checkNew(t, []api.Template{{Name: "t", Slots: []api.Field{}}}, api.OK, 0)
	checkNew(t, []api.Template{tmpl("u"), {Name: "t", Slots: make([]api.Field, 9)}}, api.ErrForm, 1)
	checkNew(t, []api.Template{tmpl("u"), {Name: "t", Slots: make([]api.Field, 100000)}}, api.ErrForm, 1)
}

// P7.1 (G1): a template's name is a name, and none of seven words.
func TestTemplateNames(t *testing.T) {
	for _, name := range names() {
		checkNew(t, []api.Template{tmpl(name)}, api.OK, 0)
		checkNew(t, []api.Template{tmpl("other"), tmpl(name, api.Num, api.Sym)}, api.OK, 0)
	}
	for _, l := range [][]string{noNames(), conditions(), constants()} {
		for _, name := range l {
			checkNew(t, []api.Template{tmpl(name)}, api.ErrForm, 0)
			checkNew(t, []api.Template{tmpl("other"), tmpl(name, api.Num, api.Sym)}, api.ErrForm, 1)
		}
	}
}

// P7.1 (G1): a slot's name is a name, and none of three words, wherever it stands; it may be what a template's may not, and its template's own.
func TestSlotNames(t *testing.T) {
	for _, l := range [][]string{names(), conditions(), {"t"}} {
		for _, name := range l {
			checkNew(t, []api.Template{slotted(api.Field{Name: name, Type: api.Num})}, api.OK, 0)
		}
	}
	for _, l := range [][]string{noNames(), constants()} {
		for _, name := range l {
			checkNew(t, []api.Template{slotted(api.Field{Name: name, Type: api.Num})}, api.ErrForm, 0)
			for i := range 8 {
				one := tmpl("t", 1, 2, 3, 4, 1, 2, 3, 4)
				one.Slots[i].Name = name
				checkNew(t, []api.Template{tmpl("other"), one}, api.ErrForm, 1)
			}
		}
	}
}

// P7.1 (G1): a slot's type is one of four, wherever it stands.
func TestTypes(t *testing.T) {
	for _, kind := range kinds() {
		checkNew(t, []api.Template{tmpl("t", kind)}, api.OK, 0)
		checkNew(t, []api.Template{tmpl("t", kind, kind), tmpl("u", kind, 1, 2, 3, 4, kind)}, api.OK, 0)
	}
	for kind := -20; kind <= 20; kind++ {
		want := api.ErrForm
		if kind >= 1 && kind <= 4 {
			want = api.OK
		}
		checkNew(t, []api.Template{tmpl("t", kind)}, want, 0)
	}
	for _, kind := range noTypes() {
		checkNew(t, []api.Template{tmpl("t", kind)}, api.ErrForm, 0)
		for i := range 8 {
			one := tmpl("t", 1, 2, 3, 4, 1, 2, 3, 4)
			one.Slots[i].Type = kind
			checkNew(t, []api.Template{tmpl("other"), one}, api.ErrForm, 1)
		}
	}
}

// P7.1 (G1): no two slots of one template have one name, of one type or of two, wherever they stand; slots of two templates may.
func TestSlotsAlike(t *testing.T) {
	for n := 2; n <= 8; n++ {
		for j := range n {
			for i := range j {
				one := tmpl("t", []int{1, 2, 3, 4, 1, 2, 3, 4}[:n]...)
				one.Slots[j].Name = one.Slots[i].Name
				checkNew(t, []api.Template{tmpl("u", 1), one}, api.ErrForm, 1)
				one.Slots[j] = one.Slots[i]
				checkNew(t, []api.Template{one}, api.ErrForm, 0)
			}
		}
	}
	checkNew(t, []api.Template{tmpl("t", 1, 2), tmpl("u", 1, 2), tmpl("v", 2, 1, 3)}, api.OK, 0)
}

// P7.1 (G1): no two templates have one name, whatever slots they have, side by side or apart.
func TestTemplatesAlike(t *testing.T) {
	for _, n := range []int{2, 3, 5, 16} {
		for j := range n {
			for i := range j {
				l := many(n)
				l[j] = l[i]
				checkNew(t, l, api.ErrThere, j)
				l[j] = tmpl(l[i].Name, api.Num, api.Bool)
				checkNew(t, l, api.ErrThere, j)
				checkNew(t, l[:j], api.OK, 0)
			}
		}
	}
	checkNew(t, []api.Template{tmpl("t"), tmpl("t"), tmpl("t")}, api.ErrThere, 1)
	checkNew(t, []api.Template{tmpl("t"), tmpl("u"), tmpl("u"), tmpl("t")}, api.ErrThere, 2)
	checkNew(t, []api.Template{tmpl("t"), tmpl("t1"), tmpl("ta"), tmpl("tt")}, api.OK, 0)
}

// P7.1 (G1), P2: of several faults the first template's is told; of one template's the error that is named first.
func TestFaults(t *testing.T) {
	alike, form := tmpl("t", api.Num), tmpl("u", api.Id)
	for _, c := range []struct {
		l    []api.Template
		want api.Errno
		at   int
	}{
		{[]api.Template{form, tmpl("not")}, api.ErrForm, 0},
		{[]api.Template{alike, alike, form}, api.ErrThere, 1},
		{[]api.Template{alike, form, alike}, api.ErrForm, 1},
		{[]api.Template{form, alike, alike}, api.ErrForm, 0},
		{[]api.Template{form, form}, api.ErrForm, 0},
		{[]api.Template{tmpl("not"), tmpl("not")}, api.ErrForm, 0},
		{[]api.Template{alike, tmpl("t", api.Id)}, api.ErrForm, 1},
		{[]api.Template{alike, tmpl("t", 1, 2, 3, 4, 1, 2, 3, 4, 1)}, api.ErrForm, 1},
		{[]api.Template{alike, {Name: "t", Slots: []api.Field{{Name: "a", Type: 1}, {Name: "a", Type: 1}}}}, api.ErrForm, 1},
		{[]api.Template{alike, {Name: "t", Slots: []api.Field{{Name: "none", Type: 1}}}}, api.ErrForm, 1},
		{[]api.Template{tmpl("not", api.Id, -1, 77)}, api.ErrForm, 0},
		{[]api.Template{tmpl("", 0, 5, 6, 7, 8, 9, 10, 11, 12)}, api.ErrForm, 0},
		{[]api.Template{tmpl("u", 1, 2, 3, 4, 5), form}, api.ErrForm, 0},
	} {
		checkNew(t, c.l, c.want, c.at)
	}
}

// P7.1 (G1), P2: faults of both sorts at any two places of many, and at all behind one.
func TestFaultsApart(t *testing.T) {
	for i := 1; i < 16; i++ {
		for j := range i {
			l := many(16)
			l[i], l[j] = tmpl("u", api.Set), tmpl("")
			checkNew(t, l, api.ErrForm, j)
			l = many(16)
			l[i] = l[j]
			for k := i + 1; k < 16; k++ {
				l[k] = tmpl("t"+strconv.Itoa(k), api.None)
			}
			checkNew(t, l, api.ErrThere, i)
			l[j].Slots = []api.Field{{Name: "x", Type: 9}}
			checkNew(t, l, api.ErrForm, j)
		}
	}
}

// P7.1 (G2): Find, Slot and Type of what is there, and of what is not: another template's slot, a slot's name as a template's.
func TestFound(t *testing.T) {
	s := made(t, few()...)
	checkSchema(t, s, few())
	for _, c := range []struct {
		name, slot string
		at         int
		is         bool
		kind       int
	}{
		{"order", "by", 0, true, api.Sym},
		{"order", "total", 1, true, api.Num},
		{"order", "paid", 2, true, api.Bool},
		{"order", "note", 3, true, api.Text},
		{"order", "order", 0, false, 0},
		{"order", "", 0, false, 0},
		{"note", "order", 0, true, api.Num},
		{"note", "by", 0, false, 0},
		{"total", "by", 1, true, api.Num},
		{"total", "total", 0, true, api.Text},
		{"total", "paid", 0, false, 0},
		{"empty", "by", 0, false, 0},
		{"empty", "", 0, false, 0},
		{"by", "by", 0, false, 0},
		{"", "by", 0, false, 0},
		{"", "", 0, false, 0},
		{"ORDER", "by", 0, false, 0},
		{"order", "BY", 0, false, 0},
		{"a1", "as", 0, true, api.Num},
		{"a1", "x", 7, true, api.Bool},
		{times("z", 24), times("y", 23), 1, true, api.Sym},
		{times("z", 25), times("y", 23), 0, false, 0},
		{times("z", 23), times("y", 23), 0, false, 0},
		{times("z", 100000), times("y", 100000), 0, false, 0},
	} {
		if at, is := s.Slot(c.name, c.slot); at != c.at || is != c.is {
			t.Errorf("Slot %s of %s: got %d, %v", brief(c.slot), brief(c.name), at, is)
		}
		if kind := s.Type(c.name, c.slot); kind != c.kind {
			t.Errorf("Type of slot %s of %s: got %d", brief(c.slot), brief(c.name), kind)
		}
		checkFind(t, s, few(), c.name)
	}
}

// P7.1 (G2): of no templates nothing is there.
func TestFoundOfNone(t *testing.T) {
	for _, s := range []model{nil, {}} {
		none := made(t, s...)
		for _, name := range append(append(names(), noNames()...), constants()...) {
			checkFind(t, none, nil, name)
			checkSlot(t, none, nil, name, "a")
			checkFits(t, none, nil, name, nil, api.ErrNone)
		}
		if got := none.List(); len(got) != 0 {
			t.Errorf("List: got %d", len(got))
		}
	}
}

// P7.1 (G2): List is in the order in which the templates came, not in that of their names.
func TestListInOrder(t *testing.T) {
	r := newValues(1)
	for range 40 {
		l := many(16)
		r.Shuffle(len(l), func(i, j int) { l[i], l[j] = l[j], l[i] })
		for i, got := range made(t, l...).List() {
			if got.Name != l[i].Name {
				t.Fatalf("at %d: got %s, want %s", i, got.Name, l[i].Name)
			}
		}
	}
}
