package alpha_test

import (
	"fmt"
	"math"
	"math/rand"
	"slices"

	"tribunal/api"
	"tribunal/value"
)

// model is what a node has to be like: a list of its facts, the least number first. It is another telling, without a map, and without schema and bind.
type model struct {
	p     api.Pat
	as    string
	facts []api.Fact
}

// place is that of the first fact whose number is not below id, and whether it is its number.
func (m *model) place(id int) (int, bool) {
	for i, f := range m.facts {
		if f.Id >= id {
			return i, f.Id == id
		}
	}
	return len(m.facts), false
}

func (m *model) add(f api.Fact) []api.Delta {
	i, there := m.place(f.Id)
	if there {
		return nil
	}
	f.Vals = slices.Clone(f.Vals)
	m.facts = slices.Insert(m.facts, i, f)
	return m.deltas(f, true)
}

func (m *model) del(id int) []api.Delta {
	i, there := m.place(id)
	if !there {
		return nil
	}
	f := m.facts[i]
	m.facts = slices.Delete(m.facts, i, i+1)
	return m.deltas(f, false)
}

func (m *model) all() []api.Tuple {
	var l []api.Tuple
	for _, f := range m.facts {
		if t, is := m.makes(f); is {
			l = append(l, t)
		}
	}
	return l
}

func (m *model) deltas(f api.Fact, add bool) []api.Delta {
	t, is := m.makes(f)
	if !is {
		return nil
	}
	return []api.Delta{{Add: add, T: t}}
}

// makes is what a fact makes of the pattern, slot by slot, as the words of chapter 14 go.
func (m *model) makes(f api.Fact) (api.Tuple, bool) {
	slots, is := fits(f)
	if !is || f.Tmpl != m.p.Tmpl {
		return api.Tuple{}, false
	}
	var l []api.Bind
	for _, s := range m.p.Slots {
		i := slices.IndexFunc(slots, func(x api.Field) bool { return x.Name == s.Name })
		if i < 0 {
			return api.Tuple{}, false
		}
		if s.T.Var != "" {
			l, is = with(l, s.T.Var, f.Vals[i])
		} else {
			is = s.T.V == f.Vals[i]
		}
		if !is {
			return api.Tuple{}, false
		}
	}
	if m.as != "" {
		if l, is = with(l, m.as, api.Value{Kind: api.Id, S: fmt.Sprint(f.Id)}); !is {
			return api.Tuple{}, false
		}
	}
	return api.Tuple{Binds: l, Ids: []int{f.Id}}, true
}

// fits is the slots of a fact's template, and whether its values fit these.
func fits(f api.Fact) ([]api.Field, bool) {
	i := slices.IndexFunc(templates(), func(t api.Template) bool { return t.Name == f.Tmpl })
	if i < 0 || len(f.Vals) != len(templates()[i].Slots) {
		return nil, false
	}
	for k, x := range templates()[i].Slots {
		if f.Vals[k].Kind != x.Type || !value.Right(f.Vals[k]) {
			return nil, false
		}
	}
	return templates()[i].Slots, true
}

// with puts a variable's value in at its place; false: it has another one there.
func with(l []api.Bind, name string, v api.Value) ([]api.Bind, bool) {
	i := 0
	for i < len(l) && l[i].Name < name {
		i++
	}
	if i < len(l) && l[i].Name == name {
		return l, l[i].V == v
	}
	return slices.Insert(l, i, api.Bind{Name: name, V: v}), true
}

// maker makes patterns, facts and calls, of few names, values and numbers, the same ones each time.
type maker struct{ *rand.Rand }

func newMaker(seed int64) maker { return maker{rand.New(rand.NewSource(seed))} }

// one is one of those.
func one[T any](m maker, those ...T) T { return those[m.Intn(len(those))] }

// number is one of so few that one is often there already; seldom it is one that no fact has elsewhere.
func (m maker) number() int {
	if m.Intn(10) == 0 {
		return one(m, edges()...)
	}
	return m.Intn(9) + 1
}

// tmpl is a template's name, of few; seldom of one that there is none of.
func (m maker) tmpl() string {
	if m.Intn(20) == 0 {
		return one(m, "", "nothere", "Pair", "order ")
	}
	return one(m, "pair", "pair", "pair", "other", "order", "flag")
}

// value is one of a type, of two; seldom it is one of another kind, or none that is right.
func (m maker) value(kind int) api.Value {
	if m.Intn(40) == 0 {
		return one(m, num("2/2"), num("1"), text("1"), sym("1"), sym("a"), text("a"), boolean("1"), api.Value{}, api.Value{Kind: api.Id, S: "1"}, api.Value{Kind: api.Set, S: "1"}, api.Value{Kind: 9, S: "1"})
	}
	switch kind {
	case api.Num:
		return one(m, num("1"), num("2"))
	case api.Text:
		return one(m, text("a"), text("1"))
	case api.Sym:
		return one(m, sym("a"), sym("true"))
	}
	return one(m, boolean("true"), boolean("false"))
}

// slots is those of a template; none, if there is none of that name.
func slots(tmpl string) []api.Field {
	for _, t := range templates() {
		if t.Name == tmpl {
			return t.Slots
		}
	}
	return nil
}

// fact is one that mostly fits.
func (m maker) fact() api.Fact {
	f := api.Fact{Id: m.number(), Tmpl: m.tmpl()}
	for _, x := range slots(f.Tmpl) {
		f.Vals = append(f.Vals, m.value(x.Type))
	}
	switch m.Intn(40) {
	case 0:
		f.Vals = append(f.Vals, m.value(api.Num))
	case 1:
		f.Vals = f.Vals[:max(len(f.Vals)-1, 0)]
	}
	return f
}

// pat is a pattern of up to three slots, that mostly are of its template.
func (m maker) pat() api.Pat {
	p := api.Pat{Tmpl: m.tmpl()}
	for range m.Intn(4) {
		s := api.Slot{Name: one(m, "a", "b", "by", "nothere", "")}
		if l := slots(p.Tmpl); len(l) > 0 && m.Intn(25) > 0 {
			x := one(m, l...)
			s = api.Slot{Name: x.Name, T: api.Term{V: m.value(x.Type)}}
		}
		if m.Intn(3) > 0 {
			s.T.Var = one(m, "x", "y", "z", "f", "X")
		}
		p.Slots = append(p.Slots, s)
	}
	return p
}

// as is a fact's variable, or none.
func (m maker) as() string { return one(m, "", "f", "a", "zz", "x", "F", "1") }

// step is a call on a node that is there, and tells what that told.
func (m maker) step(b *both) []api.Delta {
	b.t.Helper()
	if m.Intn(5) < 3 {
		return b.add(m.fact())
	}
	return b.del(m.number())
}

// edges is facts' numbers where something might go over, or be cut.
func edges() []int {
	return []int{0, -1, -2, 77, 300, 301, 999999999, 1000000000, 9999999999, math.MaxInt32, math.MaxInt32 + 1, math.MinInt32, math.MinInt32 - 1, math.MaxUint32, 1<<32 + 1, 1<<32 + 2, -1 << 32, 1 - 1<<32, 1<<53 + 1, 1 << 53, math.MaxInt, math.MaxInt - 1, math.MinInt, math.MinInt + 1}
}
