package facts_test

import (
	"math"
	"math/rand"
	"slices"
	"strconv"
	"strings"
	"testing"

	"tribunal/api"
	"tribunal/facts"
	"tribunal/schema"
	"tribunal/value"
)

func num(s string) api.Value  { return api.Value{Kind: api.Num, S: s} }
func text(s string) api.Value { return api.Value{Kind: api.Text, S: s} }
func sym(s string) api.Value  { return api.Value{Kind: api.Sym, S: s} }
func id(s string) api.Value   { return api.Value{Kind: api.Id, S: s} }
func set(s string) api.Value  { return api.Value{Kind: api.Set, S: s} }

func boolean(s string) api.Value { return api.Value{Kind: api.Bool, S: s} }

// vals is a list of values, put is one of what slots are to have.
func vals(l ...api.Value) []api.Value { return l }

func put(name string, v api.Value) api.Put { return api.Put{Name: name, V: v} }

func puts(l ...api.Put) []api.Put { return l }

// times is s, n times.
func times(s string, n int) string { return strings.Repeat(s, n) }

// templates is what facts of the tests may have: slots of all types, of one name in two templates, at other places and of other types, of one type twice, as many as may be, and none.
func templates() []api.Template {
	return []api.Template{
		{Name: "order", Slots: []api.Field{{Name: "by", Type: api.Sym}, {Name: "total", Type: api.Num}, {Name: "paid", Type: api.Bool}, {Name: "note", Type: api.Text}}},
		{Name: "bill", Slots: []api.Field{{Name: "total", Type: api.Num}, {Name: "by", Type: api.Text}}},
		{Name: "flag"},
		{Name: "pair", Slots: []api.Field{{Name: "a", Type: api.Num}, {Name: "b", Type: api.Num}}},
		{Name: "twin", Slots: []api.Field{{Name: "b", Type: api.Num}, {Name: "a", Type: api.Num}}},
		{Name: "wide", Slots: []api.Field{{Name: "a", Type: api.Num}, {Name: "b", Type: api.Text}, {Name: "c", Type: api.Sym}, {Name: "d", Type: api.Bool}, {Name: "e", Type: api.Num}, {Name: "f", Type: api.Text}, {Name: "g", Type: api.Sym}, {Name: "h", Type: api.Bool}}},
	}
}

// template is the one of a name among templates; false: there is none.
func template(name string) (api.Template, bool) {
	l := templates()
	i := slices.IndexFunc(l, func(t api.Template) bool { return t.Name == name })
	if i < 0 {
		return api.Template{}, false
	}
	return l[i], true
}

// slotOf is the place of a slot of a template; -1: there is none.
func slotOf(tmpl string, slot string) int {
	t, _ := template(tmpl)
	return slices.IndexFunc(t.Slots, func(f api.Field) bool { return f.Name == slot })
}

// noTemplates is names of which there is no template.
func noTemplates() []string {
	return []string{"", "o", "orders", "orde", "Order", "order ", " order", "total", "by", "a", "none", "not", "flags", "flag\x00", "\xff", times("a", 100000)}
}

// noSlots is names of which no template has a slot.
func noSlots() []string {
	return []string{"", "x", "tota", "totals", "Total", "total ", "order", "bill", "flag", "aa", "i", "0", "none", "\x00", "\xff", times("a", 100000)}
}

// slotNames is all names of slots, of whatever template.
func slotNames() []string {
	return []string{"by", "total", "paid", "note", "a", "b", "c", "d", "e", "f", "g", "h"}
}

// ofKind is right values of a kind that a slot may have, some of the same text as ones of other kinds.
func ofKind(kind int) []api.Value {
	switch kind {
	case api.Num:
		return vals(num("1"), num("0"), num("2"), num("-3/2"), num(times("9", 300)))
	case api.Text:
		return vals(text("a"), text(""), text("1"), text("true"), text(times("~", 100)))
	case api.Sym:
		return vals(sym("a"), sym("true"), sym("b"), sym("z"+times("9", 23)))
	case api.Bool:
		return vals(boolean("true"), boolean("false"))
	}
	return nil
}

// strange is values that no slot may have: of other kinds, or not right.
func strange() []api.Value {
	return vals(api.Value{}, api.Value{S: "1"}, id("1"), id("0"), set(""), set("1"), num(""), num("01"), num("2/4"), num("-0"), num(" 1"), num("true"), num(times("9", 301)), text("\""), text("\n"), text("\xff"), text(times("~", 101)), sym(""), sym("1"), sym("A"), sym(times("a", 25)), boolean(""), boolean("True"), boolean("1"), api.Value{Kind: 7, S: "1"}, api.Value{Kind: -1}, api.Value{Kind: math.MinInt, S: "a"}, api.Value{Kind: math.MaxInt, S: "true"}, api.Value{Kind: 1<<32 + 1, S: "1"})
}

// stock is values of all sorts.
func stock() []api.Value {
	l := strange()
	for kind := api.Num; kind <= api.Bool; kind++ {
		l = append(l, ofKind(kind)...)
	}
	return l
}

// fitting is values that a fact of a template may have, the nth ones of each type.
func fitting(tmpl string, n int) []api.Value {
	t, _ := template(tmpl)
	l := make([]api.Value, len(t.Slots))
	for i, f := range t.Slots {
		of := ofKind(f.Type)
		l[i] = of[(n+i)%len(of)]
	}
	return l
}

// made is facts that are none yet, of templates.
func made(t *testing.T) *facts.Facts {
	t.Helper()
	s, err, _ := schema.New(templates())
	if s == nil {
		t.Fatalf("the test's templates may not be: error %d", err)
	}
	return facts.New(s)
}

// model is what is known, as facts have to tell it: a list, the least number first, and how many numbers were given.
type model struct {
	list  []api.Fact
	given int
}

// fits is what is wrong with values of a fact.
func fits(tmpl string, l []api.Value) api.Errno {
	t, is := template(tmpl)
	if !is {
		return api.ErrNone
	}
	if len(l) != len(t.Slots) {
		return api.ErrArg
	}
	for i, f := range t.Slots {
		if f.Type != l[i].Kind || !value.Right(l[i]) {
			return api.ErrType
		}
	}
	return api.OK
}

// at is the place in the list of a number; -1: there is none.
func (m *model) at(id int) int {
	return slices.IndexFunc(m.list, func(x api.Fact) bool { return x.Id == id })
}

func (m *model) add(tmpl string, l []api.Value) int {
	m.given++
	m.list = append(m.list, api.Fact{Id: m.given, Tmpl: tmpl, Vals: slices.Clone(l)})
	return m.given
}

func (m *model) assert(tmpl string, l []api.Value) (int, api.Errno) {
	if err := fits(tmpl, l); err != api.OK {
		return 0, err
	}
	if len(m.list) == 300 {
		return 0, api.ErrTooMany
	}
	return m.add(tmpl, l), api.OK
}

func (m *model) retract(id int) api.Errno {
	i := m.at(id)
	if i < 0 {
		return api.ErrNone
	}
	m.list = slices.Delete(m.list, i, i+1)
	return api.OK
}

func (m *model) modify(id int, l []api.Put) (int, api.Errno) {
	i := m.at(id)
	if i < 0 {
		return 0, api.ErrNone
	}
	x := m.list[i]
	for j, p := range l {
		alike := func(q api.Put) bool { return q.Name == p.Name }
		if slotOf(x.Tmpl, p.Name) < 0 || slices.ContainsFunc(l[:j], alike) {
			return 0, api.ErrArg
		}
	}
	now := slices.Clone(x.Vals)
	for _, p := range l {
		t, _ := template(x.Tmpl)
		j := slotOf(x.Tmpl, p.Name)
		if p.V.Kind != t.Slots[j].Type || !value.Right(p.V) {
			return 0, api.ErrType
		}
		now[j] = p.V
	}
	m.list = slices.Delete(m.list, i, i+1)
	return m.add(x.Tmpl, now), api.OK
}

// those is the facts for which is holds.
func (m *model) those(is func(api.Fact) bool) []api.Fact {
	var l []api.Fact
	for _, x := range m.list {
		if is(x) {
			l = append(l, x)
		}
	}
	return l
}

func (m *model) of(tmpl string) []api.Fact {
	return m.those(func(x api.Fact) bool { return x.Tmpl == tmpl })
}

func (m *model) with(tmpl string, slot string, v api.Value) []api.Fact {
	i := slotOf(tmpl, slot)
	return m.those(func(x api.Fact) bool { return i >= 0 && x.Tmpl == tmpl && x.Vals[i] == v })
}

// alike tells whether two lists of facts are the same, an empty list of values being one that is nil.
func alike(a, b []api.Fact) bool { return slices.EqualFunc(a, b, alikeOne) }

func alikeOne(a, b api.Fact) bool {
	return a.Id == b.Id && a.Tmpl == b.Tmpl && slices.Equal(a.Vals, b.Vals)
}

// deep is l, with memory of its own.
func deep(l []api.Fact) []api.Fact {
	l = slices.Clone(l)
	for i := range l {
		l[i].Vals = slices.Clone(l[i].Vals)
	}
	return l
}

// told is how facts are told to who reads a failure.
func told(l []api.Fact) string {
	var b strings.Builder
	for _, x := range l[:min(len(l), 12)] {
		b.WriteString("#" + strconv.Itoa(x.Id) + " " + brief(x.Tmpl) + toldValues(x.Vals) + "; ")
	}
	return b.String() + strconv.Itoa(len(l)) + " facts"
}

func toldValues(l []api.Value) string {
	var b strings.Builder
	for _, v := range l[:min(len(l), 12)] {
		b.WriteString(" " + strconv.Itoa(v.Kind) + ":" + brief(v.S))
	}
	return b.String()
}

func toldPuts(l []api.Put) string {
	var b strings.Builder
	for _, p := range l[:min(len(l), 12)] {
		b.WriteString(" " + brief(p.Name) + toldValues(vals(p.V)))
	}
	return b.String()
}

func brief(s string) string {
	if len(s) > 40 {
		s = s[:20] + ".." + s[len(s)-18:]
	}
	return strconv.Quote(s)
}

// both is facts, and what they have to be like.
type both struct {
	t *testing.T
	f *facts.Facts
	m *model
}

func newBoth(t *testing.T) *both {
	t.Helper()
	return &both{t, made(t), &model{}}
}

// assert has a fact be asserted, and fails unless that number, or that error, is told.
func (b *both) assert(tmpl string, l ...api.Value) int {
	b.t.Helper()
	want, wrong := b.m.assert(tmpl, l)
	got, err := b.f.Assert(tmpl, l)
	if got != want || err != wrong {
		b.t.Fatalf("Assert of %s%s: got %d, %d, want %d, %d", brief(tmpl), toldValues(l), got, err, want, wrong)
	}
	b.brief()
	return got
}

func (b *both) retract(id int) {
	b.t.Helper()
	want := b.m.retract(id)
	if err := b.f.Retract(id); err != want {
		b.t.Fatalf("Retract of %d: got %d, want %d", id, err, want)
	}
	b.brief()
}

func (b *both) modify(id int, l ...api.Put) int {
	b.t.Helper()
	want, wrong := b.m.modify(id, l)
	got, err := b.f.Modify(id, l)
	if got != want || err != wrong {
		b.t.Fatalf("Modify of %d%s: got %d, %d, want %d, %d", id, toldPuts(l), got, err, want, wrong)
	}
	b.brief()
	return got
}

// refused fails, unless the model tells that error too: the test's own words stand beside the model.
func (b *both) refused(got int, err api.Errno, want api.Errno) {
	b.t.Helper()
	if got != 0 || err != want {
		b.t.Fatalf("got %d, %d, want 0, %d", got, err, want)
	}
}

// noAssert fails, unless Assert is refused with that error, and changes nothing.
func (b *both) noAssert(want api.Errno, tmpl string, l ...api.Value) {
	b.t.Helper()
	got, err := b.f.Assert(tmpl, l)
	b.refused(got, err, want)
	b.assert(tmpl, l...)
}

// noModify fails, unless Modify is refused with that error, and changes nothing.
func (b *both) noModify(want api.Errno, id int, l ...api.Put) {
	b.t.Helper()
	got, err := b.f.Modify(id, l)
	b.refused(got, err, want)
	b.modify(id, l...)
}

// noRetract fails, unless Retract finds none, and changes nothing.
func (b *both) noRetract(id int) {
	b.t.Helper()
	if err := b.f.Retract(id); err != api.ErrNone {
		b.t.Fatalf("Retract of %d: got %d, want %d", id, err, api.ErrNone)
	}
	b.retract(id)
}

// brief fails, unless All, Many and Next are as they have to be.
func (b *both) brief() {
	b.t.Helper()
	if got := b.f.All(); !alike(got, b.m.list) {
		b.t.Fatalf("All: got %s, want %s", told(got), told(b.m.list))
	}
	if got := b.f.Many(); got != len(b.m.list) {
		b.t.Fatalf("Many: got %d, want %d", got, len(b.m.list))
	}
	if got := b.f.Next(); got != b.m.given+1 {
		b.t.Fatalf("Next: got %d, want %d", got, b.m.given+1)
	}
}

// check fails, unless all is told as it has to be.
func (b *both) check() {
	b.t.Helper()
	b.brief()
	for id := -2; id <= b.m.given+2; id++ {
		b.checkGet(id)
	}
	for _, t := range templates() {
		b.checkOf(t.Name)
		for _, f := range t.Slots {
			for _, v := range stock() {
				b.checkWith(t.Name, f.Name, v)
			}
		}
	}
}

func (b *both) checkGet(id int) {
	b.t.Helper()
	var want api.Fact
	i := b.m.at(id)
	if i >= 0 {
		want = b.m.list[i]
	}
	if got, is := b.f.Get(id); !alikeOne(got, want) || is != (i >= 0) {
		b.t.Fatalf("Get of %d: got %s, %v, want %s", id, told([]api.Fact{got}), is, told([]api.Fact{want}))
	}
}

func (b *both) checkOf(tmpl string) {
	b.t.Helper()
	if got, want := b.f.Of(tmpl), b.m.of(tmpl); !alike(got, want) {
		b.t.Fatalf("Of %s: got %s, want %s", brief(tmpl), told(got), told(want))
	}
}

func (b *both) checkWith(tmpl string, slot string, v api.Value) {
	b.t.Helper()
	if got, want := b.f.With(tmpl, slot, v), b.m.with(tmpl, slot, v); !alike(got, want) {
		b.t.Fatalf("With %s %s%s: got %s, want %s", brief(tmpl), brief(slot), toldValues(vals(v)), told(got), told(want))
	}
}

// fill has facts of some templates be asserted, until there are n.
func (b *both) fill(n int) {
	b.t.Helper()
	all := templates()
	for i := 0; b.f.Many() < n; i++ {
		name := all[i%len(all)].Name
		b.assert(name, fitting(name, i/len(all))...)
	}
}

// makes makes calls and what they are given, the same ones each time.
type makes struct{ *rand.Rand }

func newMakes(seed int64) makes { return makes{rand.New(rand.NewSource(seed))} }

// one is one of l.
func one[T any](r makes, l []T) T { return l[r.Intn(len(l))] }

// tmpl is the name of a template, nearly always.
func (r makes) tmpl() string {
	if r.Intn(20) == 0 {
		return one(r, noTemplates())
	}
	return one(r, templates()).Name
}

// value is of a type, and right, nearly always.
func (r makes) value(kind int) api.Value {
	if r.Intn(30) == 0 {
		return one(r, stock())
	}
	return one(r, ofKind(kind))
}

// values is those of a fact of a template, nearly always.
func (r makes) values(tmpl string) []api.Value {
	t, _ := template(tmpl)
	var l []api.Value
	for _, f := range t.Slots {
		l = append(l, r.value(f.Type))
	}
	switch {
	case r.Intn(30) == 0:
		l = append(l, one(r, stock()))
	case r.Intn(30) == 0 && len(l) > 0:
		l = l[:len(l)-1]
	}
	return l
}

// puts is some slots of a template, nearly always, in any order.
func (r makes) puts(tmpl string) []api.Put {
	t, _ := template(tmpl)
	var l []api.Put
	for _, i := range r.Perm(len(t.Slots)) {
		if r.Intn(2) == 0 {
			l = append(l, put(t.Slots[i].Name, r.value(t.Slots[i].Type)))
		}
	}
	for r.Intn(10) == 0 {
		l = append(l, put(one(r, append(slotNames(), noSlots()...)), one(r, stock())))
	}
	r.Shuffle(len(l), func(i, j int) { l[i], l[j] = l[j], l[i] })
	return l
}

// number is that of a fact that is there, nearly always.
func (r makes) number(m *model) int {
	if len(m.list) == 0 || r.Intn(10) == 0 {
		return r.Intn(m.given+4) - 2
	}
	return one(r, m.list).Id
}

// step is any call, of those that change what is known.
func (r makes) step(b *both) {
	b.t.Helper()
	switch r.Intn(4) {
	case 0, 1:
		tmpl := r.tmpl()
		b.assert(tmpl, r.values(tmpl)...)
	case 2:
		b.retract(r.number(b.m))
	default:
		r.modify(b)
	}
}

// modify is a Modify, of any fact.
func (r makes) modify(b *both) {
	b.t.Helper()
	n := r.number(b.m)
	tmpl := r.tmpl()
	if i := b.m.at(n); i >= 0 && r.Intn(10) > 0 {
		tmpl = b.m.list[i].Tmpl
	}
	b.modify(n, r.puts(tmpl)...)
}
