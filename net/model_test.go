package net_test

import (
	"fmt"
	"math/big"
	"slices"
	"strings"

	"tribunal/api"
	kinds "tribunal/value"
)

// row is tuples, none twice, in order. It is another telling, without a map, and without the layers below.
type row struct{ l []api.Tuple }

// place is that of the first tuple that does not stand ahead of t, and whether it is t.
func (r *row) place(t api.Tuple) (int, bool) {
	return slices.BinarySearchFunc(r.l, t, against)
}

func (r *row) take(add bool, t api.Tuple) bool {
	i, there := r.place(t)
	if there == add {
		return false
	}
	if add {
		r.l = slices.Insert(r.l, i, t)
	} else {
		r.l = slices.Delete(r.l, i, i+1)
	}
	return true
}

// against is -1, 0 or 1: by the facts, then by the variables, as the words of chapter 14 go.
func against(a, b api.Tuple) int {
	for i := range min(len(a.Ids), len(b.Ids)) {
		if a.Ids[i] != b.Ids[i] {
			return sign(a.Ids[i] > b.Ids[i])
		}
	}
	if len(a.Ids) != len(b.Ids) {
		return sign(len(a.Ids) > len(b.Ids))
	}
	for i := range min(len(a.Binds), len(b.Binds)) {
		x, y := a.Binds[i], b.Binds[i]
		if x.Name != y.Name {
			return sign(x.Name > y.Name)
		}
		if x.V != y.V {
			return values(x.V, y.V)
		}
	}
	if len(a.Binds) != len(b.Binds) {
		return sign(len(a.Binds) > len(b.Binds))
	}
	return 0
}

func sign(behind bool) int {
	if behind {
		return 1
	}
	return -1
}

// rational is a number, as math/big has it.
func rational(v api.Value) *big.Rat {
	n, _ := new(big.Rat).SetString(v.S)
	return n
}

// values is the order of right ones, as the words of chapter 4 go.
func values(a, b api.Value) int {
	if a.Kind != b.Kind {
		return sign(a.Kind > b.Kind)
	}
	if a.Kind == api.Num || a.Kind == api.Id {
		return rational(a).Cmp(rational(b))
	}
	return strings.Compare(a.S, b.S)
}

// model is what a net has to be like: it has its facts alone, the least number first, and works all out anew, behind each call.
type model struct {
	p     api.Program
	facts []api.Fact
	sets  [][]api.Tuple
}

func newModel(p api.Program) *model {
	m := &model{p: p}
	m.sets = m.all()
	return m
}

func (m *model) all() [][]api.Tuple {
	var l [][]api.Tuple
	for _, r := range m.p.Rules {
		l = append(l, m.set(r.Conds))
	}
	return l
}

// set is what conditions hold for, in order.
func (m *model) set(l []api.Cond) []api.Tuple {
	rows := m.holds(l)
	slices.SortFunc(rows, against)
	return rows
}

// at is the place of the first fact whose number is not below id, and whether it is its number.
func (m *model) at(id int) (int, bool) {
	return slices.BinarySearchFunc(m.facts, id, func(f api.Fact, id int) int { return f.Id - id })
}

func (m *model) add(f api.Fact) []api.Change {
	if f.Id < 1 || f.Id > 999999999 || !m.fits(f) {
		return nil
	}
	i, there := m.at(f.Id)
	if there {
		return nil
	}
	f.Vals = slices.Clone(f.Vals)
	m.facts = slices.Insert(m.facts, i, f)
	return m.changes()
}

func (m *model) del(id int) []api.Change {
	if id < 1 || id > 999999999 {
		return nil
	}
	i, there := m.at(id)
	if !there {
		return nil
	}
	m.facts = slices.Delete(m.facts, i, i+1)
	return m.changes()
}

// changes works all out anew, and tells what is unlike what was there ahead.
func (m *model) changes() []api.Change {
	was := m.sets
	m.sets = m.all()
	var l []api.Change
	for i := range was {
		ahead, behind := row{was[i]}, row{m.sets[i]}
		for _, t := range ahead.l {
			if _, there := behind.place(t); !there {
				l = append(l, api.Change{Rule: i, T: t})
			}
		}
		for _, t := range behind.l {
			if _, there := ahead.place(t); !there {
				l = append(l, api.Change{Add: true, Rule: i, T: t})
			}
		}
	}
	return l
}

// slots is those of a template; false: there is none.
func (m *model) slots(tmpl string) ([]api.Field, bool) {
	for _, t := range m.p.Tmpls {
		if t.Name == tmpl {
			return t.Slots, true
		}
	}
	return nil, false
}

func (m *model) fits(f api.Fact) bool {
	slots, is := m.slots(f.Tmpl)
	if !is || len(slots) != len(f.Vals) {
		return false
	}
	for i, v := range f.Vals {
		if v.Kind != slots[i].Type || !kinds.Right(v) {
			return false
		}
	}
	return true
}

// holds is what conditions hold for, as the words of the chapter go.
func (m *model) holds(l []api.Cond) []api.Tuple {
	rows := []api.Tuple{{}}
	for _, c := range l {
		rows = m.behind(rows, c)
	}
	return rows
}

// behind is what one more condition makes of what those ahead hold for.
func (m *model) behind(ahead []api.Tuple, c api.Cond) []api.Tuple {
	var with, l []api.Tuple
	switch c.Kind {
	case api.CondPat, api.CondNot:
		for _, f := range m.facts {
			if t, is := m.match(c.Pat, c.As, f); is {
				with = append(with, t)
			}
		}
	case api.CondLet:
		with = results(c, m.holds(c.Over))
	}
	for _, t := range ahead {
		var own []api.Tuple
		for _, other := range with {
			if one, is := merged(t, other); is {
				own = append(own, one)
			}
		}
		if c.Kind == api.CondNot && len(own) == 0 || c.Kind == api.CondIf && holds(c.Op, c.A, c.B, t) {
			l = append(l, t)
		}
		if c.Kind == api.CondPat || c.Kind == api.CondLet {
			l = append(l, own...)
		}
	}
	return l
}

// bound is a variable's value; false: it has none.
func bound(t api.Tuple, name string) (api.Value, bool) {
	for _, b := range t.Binds {
		if b.Name == name {
			return b.V, true
		}
	}
	return api.Value{}, false
}

// with is a tuple with one more variable, by their names' order; false: that has another value.
func with(t api.Tuple, name string, v api.Value) (api.Tuple, bool) {
	if was, has := bound(t, name); has {
		return t, was == v
	}
	t.Binds = append(slices.Clone(t.Binds), api.Bind{Name: name, V: v})
	slices.SortFunc(t.Binds, func(a, b api.Bind) int { return strings.Compare(a.Name, b.Name) })
	return t, true
}

// merged is two tuples as one; false: a variable has unlike values.
func merged(a, b api.Tuple) (api.Tuple, bool) {
	ids := slices.Concat(a.Ids, b.Ids)
	for _, x := range b.Binds {
		var is bool
		if a, is = with(a, x.Name, x.V); !is {
			return api.Tuple{}, false
		}
	}
	return api.Tuple{Binds: a.Binds, Ids: ids}, true
}

// match is what a fact makes of a pattern, slot by slot; false: nothing.
func (m *model) match(p api.Pat, as string, f api.Fact) (api.Tuple, bool) {
	slots, _ := m.slots(f.Tmpl)
	t, is := api.Tuple{}, f.Tmpl == p.Tmpl
	for _, s := range p.Slots {
		i := slices.IndexFunc(slots, func(x api.Field) bool { return x.Name == s.Name })
		switch {
		case !is || i < 0:
			return api.Tuple{}, false
		case s.T.Var != "":
			t, is = with(t, s.T.Var, f.Vals[i])
		default:
			is = s.T.V == f.Vals[i]
		}
	}
	if is && as != "" {
		t, is = with(t, as, idOf(f.Id))
	}
	t.Ids = []int{f.Id}
	return t, is
}

// idOf is a fact's number, as a value.
func idOf(id int) api.Value { return api.Value{Kind: api.Id, S: fmt.Sprint(id)} }

// results is what comes of tuples, by groups.
func results(c api.Cond, rows []api.Tuple) []api.Tuple {
	var keys []api.Tuple
	var folds [][]api.Value
	add := func(key api.Tuple) int {
		for i, k := range keys {
			if alike(k, key) {
				return i
			}
		}
		keys, folds = append(keys, key), append(folds, nil)
		return len(keys) - 1
	}
	if len(c.By) == 0 {
		add(api.Tuple{})
	}
	for _, t := range rows {
		v, counts := bound(t, c.Arg)
		var key api.Tuple
		for _, name := range c.By {
			one, has := bound(t, name)
			key, _ = with(key, name, one)
			counts = counts && has
		}
		if counts && (v.Kind == api.Num || c.Fold != "sum" && c.Fold != "avg") {
			i := add(key)
			folds[i] = append(folds[i], v)
		}
	}
	for i := range keys {
		keys[i], _ = with(keys[i], c.Var, folded(c.Fold, folds[i]))
	}
	return keys
}

// folded is what comes of values, as the words of chapter 6 go.
func folded(fold string, l []api.Value) api.Value {
	slices.SortStableFunc(l, values)
	switch {
	case fold == "count":
		return num(fmt.Sprint(len(l)))
	case fold == "set":
		return set(l)
	case fold == "sum":
		v, _ := number(sum(l))
		return v
	case len(l) == 0:
		return api.Value{}
	case fold == "min":
		return l[0]
	case fold == "max":
		return l[len(l)-1]
	}
	v, _ := number(sum(l).Mul(sum(l), big.NewRat(1, int64(len(l)))))
	return v
}

func sum(l []api.Value) *big.Rat {
	all := new(big.Rat)
	for _, v := range l {
		all.Add(all, rational(v))
	}
	return all
}

// number is a zero value and false, if a value has no room for it.
func number(n *big.Rat) (api.Value, bool) {
	if s := n.RatString(); len(s) <= api.MaxNum {
		return num(s), true
	}
	return api.Value{}, false
}

// set is that of those of a sorted list that are no sets; none, if it is too long.
func set(l []api.Value) api.Value {
	var texts []string
	for _, v := range l {
		if s := written(v); v.Kind != api.Set && !slices.Contains(texts, s) {
			texts = append(texts, s)
		}
	}
	if s := strings.Join(texts, ", "); len(s) <= api.MaxSet {
		return value(api.Set, s)
	}
	return api.Value{}
}

// worth is what a right expression comes to; false: it has an error.
func worth(e api.Expr, t api.Tuple) (api.Value, bool) {
	if e.Op == "" && e.T.Var == "" {
		return e.T.V, true
	}
	if e.Op == "" {
		return bound(t, e.T.Var)
	}
	a, isA := worth(e.L[0], t)
	b, isB := worth(e.L[1], t)
	if !isA || !isB || a.Kind != api.Num || b.Kind != api.Num {
		return api.Value{}, false
	}
	x, y, z := rational(a), rational(b), new(big.Rat)
	switch {
	case e.Op == "+":
		z.Add(x, y)
	case e.Op == "-":
		z.Sub(x, y)
	case e.Op == "*":
		z.Mul(x, y)
	case y.Sign() == 0:
		return api.Value{}, false
	default:
		z.Quo(x, y)
	}
	return number(z)
}

// holds tells whether a test does.
func holds(op string, a, b api.Expr, t api.Tuple) bool {
	x, isX := worth(a, t)
	y, isY := worth(b, t)
	if !isX || !isY {
		return false
	}
	if op == "=" || op == "!=" {
		return (x == y) == (op == "=")
	}
	if x.Kind != api.Num || y.Kind != api.Num {
		return false
	}
	c := rational(x).Cmp(rational(y))
	return op == "<" && c < 0 || op == "<=" && c <= 0 || op == ">" && c > 0 || op == ">=" && c >= 0
}
