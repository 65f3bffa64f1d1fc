package bind_test

import (
	"fmt"
	"maps"
	"math/rand"
	"regexp"
	"slices"
	"sort"
	"strings"

	"tribunal/api"
	"tribunal/value"
)

// This is another telling of what bind has to answer: by maps, and by regular expressions.

var nameForm = regexp.MustCompile(`\A[a-z][a-z0-9]{0,23}\z`)

// isRight is what Right has to answer.
func isRight(t api.Tuple) bool {
	var names []string
	for _, b := range t.Binds {
		if v, err := value.Read(value.Show(b.V)); err != api.OK || v != b.V || !nameForm.MatchString(b.Name) {
			return false
		}
		names = append(names, b.Name)
	}
	for _, n := range t.Ids {
		if n < 1 {
			return false
		}
	}
	return slices.Equal(slices.Sorted(maps.Keys(byNames(t.Binds))), names)
}

// byNames is variables' values, by their names.
func byNames(l []api.Bind) map[string]api.Value {
	m := map[string]api.Value{}
	for _, b := range l {
		m[b.Name] = b.V
	}
	return m
}

// inRow is variables' values, in order.
func inRow(m map[string]api.Value) []api.Bind {
	var l []api.Bind
	for _, name := range slices.Sorted(maps.Keys(m)) {
		l = append(l, api.Bind{Name: name, V: m[name]})
	}
	return l
}

// textOf is what Text has to answer.
func textOf(t api.Tuple) string {
	var s strings.Builder
	for _, b := range t.Binds {
		fmt.Fprintf(&s, "%s=%s ", b.Name, value.Show(b.V))
	}
	for _, n := range t.Ids {
		fmt.Fprintf(&s, "#%d ", n)
	}
	return s.String()
}

// order is what Cmp has to answer.
func order(a, b api.Tuple) int {
	for i, n := range a.Ids {
		switch {
		case i == len(b.Ids) || n > b.Ids[i]:
			return 1
		case n < b.Ids[i]:
			return -1
		}
	}
	if len(a.Ids) < len(b.Ids) {
		return -1
	}
	for i, x := range a.Binds {
		switch {
		case i == len(b.Binds) || x.Name > b.Binds[i].Name:
			return 1
		case x.Name < b.Binds[i].Name:
			return -1
		case x.V != b.Binds[i].V:
			return value.Cmp(x.V, b.Binds[i].V)
		}
	}
	if len(a.Binds) < len(b.Binds) {
		return -1
	}
	return 0
}

// sorted is what Sort has to answer: right tuples, by how many of them stand ahead of each.
func sorted(l []api.Tuple) []api.Tuple {
	row := make([]api.Tuple, len(l))
	for i, t := range l {
		ahead := 0
		for k, other := range l {
			if c := order(other, t); c < 0 || c == 0 && k < i {
				ahead++
			}
		}
		row[ahead] = t
	}
	return row
}

// with is what With has to answer.
func with(t api.Tuple, name string, v api.Value) (api.Tuple, bool) {
	m := byNames(t.Binds)
	if was, is := m[name]; is && was != v {
		return api.Tuple{}, false
	}
	m[name] = v
	return api.Tuple{Binds: inRow(m), Ids: t.Ids}, true
}

// merge is what Merge has to answer.
func merge(a, b api.Tuple) (api.Tuple, bool) {
	l := append(slices.Clone(a.Binds), b.Binds...)
	sort.Slice(l, func(i, k int) bool { return l[i].Name < l[k].Name })
	l = slices.CompactFunc(l, func(x, y api.Bind) bool { return x == y })
	if len(byNames(l)) < len(l) {
		return api.Tuple{}, false
	}
	return api.Tuple{Binds: l, Ids: append(slices.Clone(a.Ids), b.Ids...)}, true
}

// match is what Match has to answer, by templates that are right: slot by slot, as the words of the chapter go.
func match(l []api.Template, p api.Pat, as string, f api.Fact) (api.Tuple, bool) {
	at := slices.IndexFunc(l, func(t api.Template) bool { return t.Name == f.Tmpl })
	if at < 0 || p.Tmpl != f.Tmpl || len(f.Vals) != len(l[at].Slots) {
		return api.Tuple{}, false
	}
	vals := map[string]api.Value{}
	for i, field := range l[at].Slots {
		if f.Vals[i].Kind != field.Type || !value.Right(f.Vals[i]) {
			return api.Tuple{}, false
		}
		vals[field.Name] = f.Vals[i]
	}
	m := map[string]api.Value{}
	come := func(name string, v api.Value) bool {
		was, is := m[name]
		m[name] = v
		return !is || was == v
	}
	for _, s := range p.Slots {
		v, is := vals[s.Name]
		if !is || s.T.Var == "" && s.T.V != v || s.T.Var != "" && !come(s.T.Var, v) {
			return api.Tuple{}, false
		}
	}
	if as != "" && !come(as, api.Value{Kind: api.Id, S: fmt.Sprint(f.Id)}) {
		return api.Tuple{}, false
	}
	return api.Tuple{Binds: inRow(m), Ids: []int{f.Id}}, true
}

// alike tells whether two tuples are the same; a list of none may be nil or not.
func alike(a, b api.Tuple) bool {
	return slices.Equal(a.Binds, b.Binds) && slices.Equal(a.Ids, b.Ids)
}

// maker makes tuples, patterns and facts, of few names and values, the same ones each time.
type maker struct{ *rand.Rand }

func newMaker(seed int64) maker { return maker{rand.New(rand.NewSource(seed))} }

// one is one of those.
func one[T any](m maker, those ...T) T { return those[m.Intn(len(those))] }

// name is one of so few that two are often the same.
func (m maker) name() string { return one(m, "a", "ab", "b", "x", "x1", "z") }

// value is one of so few that two are often the same, of one text in several kinds among them.
func (m maker) value() api.Value {
	return one(m, num("1"), num("1"), num("2"), num("10"), num("-1/2"), sym("a"), text("a"), text("1"), id("1"), id("2"), boolean("true"), sym("true"), set("1"), api.Value{})
}

// tuple is a right one.
func (m maker) tuple() api.Tuple {
	var t api.Tuple
	names := []string{"a", "ab", "b", "x", "x1", "z"}
	for _, i := range slices.Sorted(slices.Values(m.Perm(len(names))[:m.Intn(5)])) {
		t.Binds = append(t.Binds, to(names[i], m.value()))
	}
	for range m.Intn(4) {
		t.Ids = append(t.Ids, one(m, 1, 2, 3, 10, 999999999))
	}
	return t
}

// rising is one whose names rise, and are none, some of them, and whose values and numbers are wrong, some of them.
func (m maker) rising() api.Tuple {
	names := slices.Concat(rightNames(), noNames())
	slices.Sort(names)
	var t api.Tuple
	for _, i := range slices.Sorted(slices.Values(m.Perm(len(names))[:m.Intn(6)])) {
		t.Binds = append(t.Binds, to(names[i], one(m, m.value(), one(m, wrongValues()...))))
	}
	for range m.Intn(3) {
		t.Ids = append(t.Ids, one(m, append(rightIds(), wrongIds()...)...))
	}
	return t
}

// any is one of any names, values and numbers, in any order.
func (m maker) any() api.Tuple {
	t := m.rising()
	for range m.Intn(4) {
		t.Binds = append(t.Binds, to(one(m, m.name(), one(m, noNames()...)), m.value()))
	}
	m.Shuffle(len(t.Binds), func(i, k int) { t.Binds[i], t.Binds[k] = t.Binds[k], t.Binds[i] })
	return t
}

// fact is one of the templates of few, that mostly fits.
func (m maker) fact() api.Fact {
	t := one(m, few()...)
	f := fact(one(m, 1, 2, 10, 999999999), t.Name)
	for _, field := range t.Slots {
		f.Vals = append(f.Vals, m.ofType(field.Type))
	}
	switch m.Intn(30) {
	case 0:
		f.Vals = append(f.Vals, m.value())
	case 1:
		f.Vals = f.Vals[:max(len(f.Vals)-1, 0)]
	case 2:
		f.Tmpl = one(m, "", "nothere", "other", "pair")
	case 3:
		if len(f.Vals) > 0 {
			f.Vals[m.Intn(len(f.Vals))] = one(m, m.value(), one(m, wrongValues()...))
		}
	case 4:
		f.Id = one(m, append(rightIds(), wrongIds()...)...)
	}
	return f
}

// ofType is one of two values of a type.
func (m maker) ofType(kind int) api.Value {
	switch kind {
	case api.Num:
		return one(m, num("1"), num("2"))
	case api.Text:
		return one(m, text("a"), text("true"))
	case api.Sym:
		return one(m, sym("a"), sym("true"))
	}
	return one(m, boolean("true"), boolean("false"))
}

// pat is a pattern that mostly is of a fact's template, and asks for what the fact has, or for variables.
func (m maker) pat(f api.Fact) api.Pat {
	p := api.Pat{Tmpl: f.Tmpl}
	if m.Intn(12) == 0 {
		p.Tmpl = one(m, few()...).Name
	}
	at := slices.IndexFunc(few(), func(t api.Template) bool { return t.Name == p.Tmpl })
	for range m.Intn(5) {
		s := api.Slot{Name: one(m, "a", "b", "by", "nothere", "")}
		if k := m.Intn(20); at >= 0 && len(few()[at].Slots) > 0 && k > 0 {
			field := one(m, few()[at].Slots...)
			s.Name, s.T.V = field.Name, m.ofType(field.Type)
		}
		if m.Intn(3) > 0 {
			s.T = api.Term{Var: one(m, "x", "y", "z", "q", "X", "v1")}
		}
		p.Slots = append(p.Slots, s)
	}
	return p
}

// as is a fact's variable, or none.
func (m maker) as() string { return one(m, "", "f", "a", "zz", "x", "F", "1") }
