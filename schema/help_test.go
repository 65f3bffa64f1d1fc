package schema_test

import (
	"math"
	"math/rand"
	"reflect"
	"regexp"
	"slices"
	"strconv"
	"strings"
	"testing"

	"tribunal/api"
	"tribunal/schema"
	"tribunal/value"
)

func num(s string) api.Value  { return api.Value{Kind: api.Num, S: s} }
func text(s string) api.Value { return api.Value{Kind: api.Text, S: s} }
func sym(s string) api.Value  { return api.Value{Kind: api.Sym, S: s} }
func id(s string) api.Value   { return api.Value{Kind: api.Id, S: s} }
func set(s string) api.Value  { return api.Value{Kind: api.Set, S: s} }

func boolean(s string) api.Value { return api.Value{Kind: api.Bool, S: s} }

// times is s, n times.
func times(s string, n int) string { return strings.Repeat(s, n) }

// tmpl is a template of that name, whose slots are a of the first type, b of the second one, and so on.
func tmpl(name string, types ...int) api.Template {
	t := api.Template{Name: name}
	for i, k := range types {
		t.Slots = append(t.Slots, api.Field{Name: string(rune('a' + i)), Type: k})
	}
	return t
}

// slotted is a template t, whose slots are those.
func slotted(slots ...api.Field) api.Template { return api.Template{Name: "t", Slots: slots} }

// many is n templates, without slots, each of another name: t0, t1, and so on.
func many(n int) []api.Template {
	l := make([]api.Template, n)
	for i := range l {
		l[i] = tmpl("t" + strconv.Itoa(i))
	}
	return l
}

// few is right templates of several sorts.
func few() []api.Template {
	return []api.Template{
		{Name: "order", Slots: []api.Field{{Name: "by", Type: api.Sym}, {Name: "total", Type: api.Num}, {Name: "paid", Type: api.Bool}, {Name: "note", Type: api.Text}}},
		{Name: "empty"},
		{Name: "note", Slots: []api.Field{{Name: "order", Type: api.Num}}},
		{Name: "total", Slots: []api.Field{{Name: "total", Type: api.Text}, {Name: "by", Type: api.Num}}},
		{Name: "a1", Slots: []api.Field{{Name: "as", Type: api.Num}, {Name: "not", Type: api.Text}, {Name: "if", Type: api.Sym}, {Name: "let", Type: api.Bool}, {Name: "a1", Type: api.Num}, {Name: "z9", Type: api.Text}, {Name: "y", Type: api.Sym}, {Name: "x", Type: api.Bool}}},
		{Name: times("z", 24), Slots: []api.Field{{Name: times("y", 24), Type: api.Bool}, {Name: times("y", 23), Type: api.Sym}}},
	}
}

// conditions is the words that a slot's name may be, and a template's may not.
func conditions() []string { return []string{"as", "not", "if", "let"} }

// constants is the words that neither a template's name nor a slot's may be.
func constants() []string { return []string{"true", "false", "none"} }

// names is names that each may have: some that are near those words, some at the edge of what a name may be.
func names() []string {
	return []string{"a", "z", "a0", "z9", "q1w2", "num", "text", "sym", "bool", "id", "set", "a0123456789", times("a", 24), "z" + times("9", 23), "assert", "ass", "a", "s", "no", "nota", "note", "i", "iff", "f", "le", "lets", "t", "tru", "truee", "true1", "rue", "fals", "falses", "alse", "non", "nonee", "one", "rule", "template", "count", "sum", "retract", "modify", "print", "halt", "salience", "by", "over", "of"}
}

// noNames is texts that are no names, for one reason each.
func noNames() []string {
	l := []string{"", " ", times("a", 25), times("a", 26), "a" + times("0", 24), times("a", 100000), "0", "9", "0a", "9a", "1" + times("a", 23), "A", "Z", "aB", "a b", " a", "a ", "a-b", "-a", "a_b", "_a", "a.b", "?a", "'a", "\"a\"", "#1", "{a}", "(a)", "a\n", "a\x00", "\x00a", "\u00e9", "a\u00e9", "\u0430", "\u0661", "a\u0661", "\xff", "a\xff", "TRUE", "None", "Not"}
	for b := range 256 {
		if b < '0' || b > '9' && b < 'a' || b > 'z' {
			l = append(l, string([]byte{'a', byte(b)}), string([]byte{byte(b), 'a'}), "a"+string([]byte{byte(b)})+"a")
		}
	}
	return l
}

// noTypes is numbers that are no slot's type: kinds of values that a slot may not have, and none.
func noTypes() []int {
	return []int{math.MinInt, -1 << 32, -5, -4, -3, -2, -1, api.None, api.Id, api.Set, 7, 8, 9, 100, 255, 256, 257, 258, 1 << 16, 1<<32 + 1, 1<<32 + 4, math.MaxInt}
}

// kinds is all that a slot's type may be.
func kinds() []int { return []int{api.Num, api.Text, api.Sym, api.Bool} }

// ofKind is right values of a kind.
func ofKind(kind int) []api.Value {
	switch kind {
	case api.None:
		return []api.Value{{}}
	case api.Num:
		return []api.Value{num("0"), num("1"), num("-3/2"), num(times("9", 300)), num("1/" + times("9", 298))}
	case api.Text:
		return []api.Value{text(""), text("a"), text("1"), text("true"), text("a, b"), text(times("~", 100))}
	case api.Sym:
		return []api.Value{sym("a"), sym("true"), sym("none"), sym("not"), sym("z" + times("9", 23))}
	case api.Bool:
		return []api.Value{boolean("true"), boolean("false")}
	case api.Id:
		return []api.Value{id("0"), id("1"), id("999999999")}
	}
	return []api.Value{set(""), set("1"), set("none, 1, 'a")}
}

// wrong is values of a kind that are not right.
func wrong(kind int) []api.Value {
	texts := []string{"\n", "\"", times("~", 101), "\u00e9", "\xff"}
	switch kind {
	case api.None:
		texts = append(texts, "0", "a", "none")
	case api.Num:
		texts = append(texts, "", "a", "01", "-0", "2/4", "1/0", "1/1", " 1", "true", times("9", 301))
	case api.Sym:
		texts = append(texts, "", "1", "A", "a b", "'a", times("a", 25))
	case api.Bool:
		texts = append(texts, "", "1", "True", "true ", "none")
	case api.Id:
		texts = append(texts, "", "01", "-1", "1000000000")
	case api.Set:
		texts = append(texts, "2, 1", "1,2", "{}", "x")
	}
	l := make([]api.Value, len(texts))
	for i, s := range texts {
		l[i] = api.Value{Kind: kind, S: s}
	}
	return l
}

// wrongOfAll is values that are not right, of each kind, and of none.
func wrongOfAll() []api.Value {
	var l []api.Value
	for kind := api.None; kind <= api.Set; kind++ {
		l = append(l, wrong(kind)...)
	}
	return append(l, api.Value{Kind: -1}, api.Value{Kind: 7}, api.Value{Kind: 7, S: "1"}, api.Value{Kind: math.MinInt, S: "1"}, api.Value{Kind: math.MaxInt, S: "a"}, api.Value{Kind: 1<<32 + 1, S: "1"})
}

// first is the first value of each of some kinds.
func first(types ...int) []api.Value {
	var l []api.Value
	for _, kind := range types {
		l = append(l, ofKind(kind)[0])
	}
	return l
}

// deep is l, with memory of its own.
func deep(l []api.Template) []api.Template {
	l = slices.Clone(l)
	for i := range l {
		l[i].Slots = slices.Clone(l[i].Slots)
	}
	return l
}

// alike tells whether two lists of templates are the same, an empty list being one that is nil.
func alike(a, b []api.Template) bool {
	return slices.EqualFunc(a, b, alikeOne)
}

func alikeOne(a, b api.Template) bool {
	return a.Name == b.Name && slices.Equal(a.Slots, b.Slots)
}

// brief is how something is told to who reads a failure.
func brief(s string) string {
	if len(s) > 60 {
		s = s[:30] + ".." + s[len(s)-28:]
	}
	return strconv.Quote(s)
}

// model is templates, as a schema has to have them.
type model []api.Template

// name is what a name has to be like.
var name = regexp.MustCompile(`\A[a-z][a-z0-9]{0,23}\z`)

// mayName tells whether a text is a name, and none of some words.
func mayName(s string, words ...string) bool {
	return name.MatchString(s) && !slices.Contains(words, s)
}

// may tells whether a template is right.
func may(t api.Template) bool {
	seen := map[string]int{}
	for _, f := range t.Slots {
		seen[f.Name]++
		if seen[f.Name] > 1 || !mayName(f.Name, constants()...) || !slices.Contains(kinds(), f.Type) {
			return false
		}
	}
	return len(t.Slots) <= 8 && mayName(t.Name, append(conditions(), constants()...)...)
}

// fault is what New has to tell: an error, and a place.
func (m model) fault() (api.Errno, int) {
	if len(m) > 16 {
		return api.ErrTooMany, 16
	}
	seen := map[string]int{}
	for i, t := range m {
		if !may(t) {
			return api.ErrForm, i
		}
		if seen[t.Name] > 0 {
			return api.ErrThere, i
		}
		seen[t.Name]++
	}
	return api.OK, 0
}

// find is what Find has to tell.
func (m model) find(name string) (api.Template, bool) {
	for _, t := range m {
		if t.Name == name {
			return t, true
		}
	}
	return api.Template{}, false
}

// slot is what Slot has to tell, and the slot.
func (m model) slot(name, slot string) (int, bool, api.Field) {
	t, _ := m.find(name)
	for i, f := range t.Slots {
		if f.Name == slot {
			return i, true, f
		}
	}
	return 0, false, api.Field{}
}

// fits is what Fits has to tell.
func (m model) fits(name string, vals []api.Value) api.Errno {
	t, is := m.find(name)
	switch {
	case !is:
		return api.ErrNone
	case len(vals) != len(t.Slots):
		return api.ErrArg
	}
	for i, v := range vals {
		if v.Kind != t.Slots[i].Type || !value.Right(v) {
			return api.ErrType
		}
	}
	return api.OK
}

// made is a schema of l, which is right.
func made(t *testing.T, l ...api.Template) *schema.Schema {
	t.Helper()
	s, err, at := schema.New(l)
	if s == nil || err != api.OK || at != 0 {
		t.Fatalf("New of %d: nil is %v, error %d, place %d", len(l), s == nil, err, at)
	}
	return s
}

// checkNew fails, unless New of l tells that error and that place, as the model does, and a schema just without an error.
func checkNew(t *testing.T, l []api.Template, want api.Errno, place int) {
	t.Helper()
	if err, at := model(l).fault(); err != want || at != place {
		t.Fatalf("the test is wrong: the model tells %d, %d, not %d, %d", err, at, want, place)
	}
	s, err, at := schema.New(l)
	if err != want || at != place || (s != nil) != (want == api.OK) {
		t.Fatalf("New of %s: nil is %v, error %d, place %d; want error %d, place %d", told(l), s == nil, err, at, want, place)
	}
	if s != nil {
		checkSchema(t, s, l)
	}
}

// told is templates, to who reads a failure.
func told(l []api.Template) string {
	var b strings.Builder
	for _, t := range l[:min(len(l), 17)] {
		b.WriteString(" " + brief(t.Name) + " (")
		for _, f := range t.Slots[:min(len(t.Slots), 9)] {
			b.WriteString(" " + brief(f.Name) + " " + strconv.Itoa(f.Type))
		}
		b.WriteString(" )")
	}
	return strconv.Itoa(len(l)) + ":" + b.String()
}

// checkFind fails, unless Find tells what it has to.
func checkFind(t *testing.T, s *schema.Schema, m model, name string) {
	t.Helper()
	want, there := m.find(name)
	got, is := s.Find(name)
	if is != there || !alikeOne(got, want) {
		t.Fatalf("Find of %s: got %s, %v, want %s, %v", brief(name), told([]api.Template{got}), is, told([]api.Template{want}), there)
	}
	if !is && !reflect.ValueOf(got).IsZero() {
		t.Fatalf("Find of %s: none, but not zero", brief(name))
	}
}

// checkSlot fails, unless Slot and Type tell what they have to.
func checkSlot(t *testing.T, s *schema.Schema, m model, name, slot string) {
	t.Helper()
	place, there, field := m.slot(name, slot)
	if at, is := s.Slot(name, slot); at != place || is != there {
		t.Fatalf("Slot %s of %s: got %d, %v, want %d, %v", brief(slot), brief(name), at, is, place, there)
	}
	if got := s.Type(name, slot); got != field.Type {
		t.Fatalf("Type of slot %s of %s: got %d, want %d", brief(slot), brief(name), got, field.Type)
	}
}

// checkSchema fails, unless a schema tells those templates, in all ways in which it may be asked, and nothing else.
func checkSchema(t *testing.T, s *schema.Schema, m model) {
	t.Helper()
	if got := s.List(); !alike(got, m) {
		t.Fatalf("List: got %s, want %s", told(got), told(m))
	}
	asked := append([]string{"", "none", "not", "t", "nothere"}, "a", "z", times("a", 25))
	slots := slices.Clone(asked)
	for _, tm := range m {
		asked = append(asked, tm.Name)
		for _, f := range tm.Slots {
			slots = append(slots, f.Name)
		}
	}
	for _, name := range append(asked, slots...) {
		checkFind(t, s, m, name)
	}
	for _, name := range asked {
		for _, slot := range append(slots, name) {
			checkSlot(t, s, m, name, slot)
		}
	}
	checkBriefFits(t, s, m)
}

// checkBriefFits fails, unless each template takes one list of values of its slots' types, and none with one more.
func checkBriefFits(t *testing.T, s *schema.Schema, m model) {
	t.Helper()
	for _, tm := range m {
		var l []api.Value
		for _, f := range tm.Slots {
			l = append(l, ofKind(f.Type)[0])
		}
		checkFits(t, s, m, tm.Name, l, api.OK)
		checkFits(t, s, m, tm.Name, append(l, num("1")), api.ErrArg)
	}
}

// checkFits fails, unless Fits tells that error, as the model does.
func checkFits(t *testing.T, s *schema.Schema, m model, name string, vals []api.Value, want api.Errno) {
	t.Helper()
	if err := m.fits(name, vals); err != want {
		t.Fatalf("the test is wrong: the model tells %d, not %d", err, want)
	}
	if got := s.Fits(name, vals); got != want {
		t.Fatalf("Fits of %s with %d values: got %d, want %d", brief(name), len(vals), got, want)
	}
}

// values makes templates and values, the same ones each time.
type values struct{ *rand.Rand }

func newValues(seed int64) values { return values{rand.New(rand.NewSource(seed))} }

// name is a name that a template may have, one of a few.
func (r values) name() string { return string(rune('b'+r.Intn(20))) + strconv.Itoa(r.Intn(10)) }

// template is a right one.
func (r values) template() api.Template {
	t := api.Template{Name: r.name()}
	places := r.Perm(20)
	for i := range r.Intn(9) {
		t.Slots = append(t.Slots, api.Field{Name: string(rune('b' + places[i])), Type: 1 + r.Intn(4)})
	}
	return t
}

// templates is n right ones, no two of one name.
func (r values) templates(n int) []api.Template {
	var l []api.Template
	for len(l) < n {
		t := r.template()
		if _, there := model(l).find(t.Name); !there {
			l = append(l, t)
		}
	}
	return l
}

// value is a value of a kind, right or not.
func (r values) value(kind int, right bool) api.Value {
	l := wrong(kind)
	if right {
		l = ofKind(kind)
	}
	return l[r.Intn(len(l))]
}
