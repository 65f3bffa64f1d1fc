package engine_test

import (
	"fmt"
	"math/big"
	"slices"
	"strings"

	"tribunal/api"
	kinds "tribunal/value"
)

// model is what an engine has to be like: it has its facts, the least number first, how many numbers were given, and which tuples were done, and works all out anew behind each fact that comes or goes. It is another telling, without a net and an agenda, and without the layers below.
type model struct {
	p     api.Program
	facts []api.Fact
	given int
	sets  [][]api.Tuple
	done  [][]api.Tuple
}

func newModel(p api.Program) *model {
	m := &model{p: p, done: make([][]api.Tuple, len(p.Rules))}
	m.anew()
	return m
}

// anew works out what each rule's conditions hold for; what holds no more was not done.
func (m *model) anew() {
	m.sets = nil
	for i, r := range m.p.Rules {
		rows := m.set(r.Conds)
		m.sets = append(m.sets, rows)
		m.done[i] = slices.DeleteFunc(m.done[i], func(t api.Tuple) bool { return !among(rows, t) })
	}
}

func among(l []api.Tuple, t api.Tuple) bool {
	_, is := slices.BinarySearchFunc(l, t, against)
	return is
}

// todo is what holds, and was not done, in order.
func (m *model) todo() []api.Change {
	var l []api.Change
	for i, rows := range m.sets {
		for _, t := range rows {
			if !slices.ContainsFunc(m.done[i], func(d api.Tuple) bool { return alike(d, t) }) {
				l = append(l, api.Change{Add: true, Rule: i, T: t})
			}
		}
	}
	slices.SortFunc(l, m.order)
	return l
}

// order is -1, 0 or 1, as a stands ahead of b, is alike, or stands behind it: as the words of chapter 20 go.
func (m *model) order(a, b api.Change) int {
	x, y := m.p.Rules[a.Rule].Salience, m.p.Rules[b.Rule].Salience
	if x != y {
		return sign(x < y)
	}
	k, l := slices.Sorted(slices.Values(a.T.Ids)), slices.Sorted(slices.Values(b.T.Ids))
	for len(k) > 0 && len(l) > 0 {
		p, q := k[len(k)-1], l[len(l)-1]
		if p != q {
			return sign(p < q)
		}
		k, l = k[:len(k)-1], l[:len(l)-1]
	}
	if len(k) != len(l) {
		return sign(len(k) < len(l))
	}
	if a.Rule != b.Rule {
		return sign(a.Rule > b.Rule)
	}
	return against(a.T, b.T)
}

// run is the words of U2.
func (m *model) run(fuel int) ([]api.Fired, int) {
	var l []api.Fired
	for {
		todo := m.todo()
		if len(todo) == 0 {
			return l, 1
		}
		if fuel < 1 || len(l) == fuel {
			return l, 3
		}
		f, halts := m.fire(todo[0])
		l = append(l, f)
		if halts {
			return l, 2
		}
	}
}

// fire does one, and tells whether it halts.
func (m *model) fire(c api.Change) (api.Fired, bool) {
	m.done[c.Rule] = append(m.done[c.Rule], c.T)
	f := api.Fired{Rule: c.Rule, T: c.T}
	for _, a := range m.p.Rules[c.Rule].Acts {
		if a.Kind == api.ActPrint {
			v, err := worth(a.E, c.T)
			if err != api.OK {
				f.Err = err
				return f, false
			}
			f.Prints = append(f.Prints, v)
		} else if f.Err = m.act(a, c.T); f.Err != api.OK {
			return f, false
		}
		f.Done++
		if a.Kind == api.ActHalt {
			return f, true
		}
	}
	return f, false
}

// act is an action that changes facts, or halts.
func (m *model) act(a api.Act, t api.Tuple) api.Errno {
	var puts []api.Put
	for _, one := range a.Fills {
		v, err := worth(one.E, t)
		if err != api.OK {
			return err
		}
		puts = append(puts, api.Put{Name: one.Name, V: v})
	}
	id := 0
	if a.Var != "" {
		v, _ := bound(t, a.Var)
		fmt.Sscan(v.S, &id)
	}
	var err api.Errno
	switch a.Kind {
	case api.ActAssert:
		slots, _ := m.slots(a.Tmpl)
		vals := make([]api.Value, len(slots))
		for _, p := range puts {
			vals[slot(slots, p.Name)] = p.V
		}
		_, err = m.assert(a.Tmpl, vals)
	case api.ActRetract:
		err = m.retract(id)
	case api.ActModify:
		_, err = m.modify(id, puts)
	}
	return err
}

// slots is those of a template; false: there is none.
func (m *model) slots(tmpl string) ([]api.Field, bool) {
	for _, t := range m.p.Tmpls {
		if t.Name == tmpl {
			return t.Slots, true
		}
	}
	return nil, false
}

// slot is the place of a slot; -1: there is none.
func slot(slots []api.Field, name string) int {
	return slices.IndexFunc(slots, func(f api.Field) bool { return f.Name == name })
}

// at is the place of a fact's number; -1: there is none.
func (m *model) at(id int) int {
	return slices.IndexFunc(m.facts, func(f api.Fact) bool { return f.Id == id })
}

func (m *model) come(tmpl string, vals []api.Value) int {
	m.given++
	m.facts = append(m.facts, api.Fact{Id: m.given, Tmpl: tmpl, Vals: slices.Clone(vals)})
	m.anew()
	return m.given
}

func (m *model) leave(i int) {
	m.facts = slices.Delete(m.facts, i, i+1)
	m.anew()
}

func fit(v api.Value, f api.Field) bool { return v.Kind == f.Type && kinds.Right(v) }

func (m *model) assert(tmpl string, vals []api.Value) (int, api.Errno) {
	slots, is := m.slots(tmpl)
	if !is {
		return 0, api.ErrNone
	}
	if len(vals) != len(slots) {
		return 0, api.ErrArg
	}
	for i, v := range vals {
		if !fit(v, slots[i]) {
			return 0, api.ErrType
		}
	}
	if len(m.facts) == 300 {
		return 0, api.ErrTooMany
	}
	return m.come(tmpl, vals), api.OK
}

func (m *model) retract(id int) api.Errno {
	i := m.at(id)
	if i < 0 {
		return api.ErrNone
	}
	m.leave(i)
	return api.OK
}

func (m *model) modify(id int, l []api.Put) (int, api.Errno) {
	i := m.at(id)
	if i < 0 {
		return 0, api.ErrNone
	}
	f := m.facts[i]
	slots, _ := m.slots(f.Tmpl)
	vals, err := slices.Clone(f.Vals), api.OK
	for k, p := range l {
		at := slot(slots, p.Name)
		if at < 0 || slices.ContainsFunc(l[:k], func(q api.Put) bool { return q.Name == p.Name }) {
			return 0, api.ErrArg
		}
		if vals[at] = p.V; !fit(p.V, slots[at]) {
			err = api.ErrType
		}
	}
	if err != api.OK {
		return 0, err
	}
	m.leave(i)
	return m.come(f.Tmpl, vals), api.OK
}

// set is what conditions hold for, in order.
func (m *model) set(l []api.Cond) []api.Tuple {
	rows := m.holds(l)
	slices.SortFunc(rows, against)
	return rows
}

// holds is what conditions hold for, as the words of chapter 19 go.
func (m *model) holds(l []api.Cond) []api.Tuple {
	rows := []api.Tuple{{}}
	for _, c := range l {
		rows = m.behind(rows, c)
	}
	return rows
}

// behind is what one more condition makes of what those ahead hold for.
func (m *model) behind(ahead []api.Tuple, c api.Cond) []api.Tuple {
	var with, l []api.Tuple
	switch c.Kind {
	case api.CondPat, api.CondNot:
		for _, f := range m.facts {
			if t, is := m.match(c.Pat, c.As, f); is {
				with = append(with, t)
			}
		}
	case api.CondLet:
		with = results(c, m.holds(c.Over))
	}
	for _, t := range ahead {
		var own []api.Tuple
		for _, other := range with {
			if one, is := merged(t, other); is {
				own = append(own, one)
			}
		}
		if c.Kind == api.CondNot && len(own) == 0 || c.Kind == api.CondIf && holds(c.Op, c.A, c.B, t) {
			l = append(l, t)
		}
		if c.Kind == api.CondPat || c.Kind == api.CondLet {
			l = append(l, own...)
		}
	}
	return l
}

// match is what a fact makes of a pattern, slot by slot; false: nothing.
func (m *model) match(p api.Pat, as string, f api.Fact) (api.Tuple, bool) {
	slots, _ := m.slots(f.Tmpl)
	t, is := api.Tuple{}, f.Tmpl == p.Tmpl
	for _, s := range p.Slots {
		if !is {
			return api.Tuple{}, false
		}
		v := f.Vals[slot(slots, s.Name)]
		if s.T.Var != "" {
			t, is = with(t, s.T.Var, v)
		} else {
			is = s.T.V == v
		}
	}
	if is && as != "" {
		t, is = with(t, as, value(api.Id, fmt.Sprint(f.Id)))
	}
	t.Ids = []int{f.Id}
	return t, is
}

// against is -1, 0 or 1: by the facts, then by the variables, as the words of chapter 14 go.
func against(a, b api.Tuple) int {
	for i := range min(len(a.Ids), len(b.Ids)) {
		if a.Ids[i] != b.Ids[i] {
			return sign(a.Ids[i] > b.Ids[i])
		}
	}
	if len(a.Ids) != len(b.Ids) {
		return sign(len(a.Ids) > len(b.Ids))
	}
	for i := range min(len(a.Binds), len(b.Binds)) {
		x, y := a.Binds[i], b.Binds[i]
		if x.Name != y.Name {
			return sign(x.Name > y.Name)
		}
		if x.V != y.V {
			return values(x.V, y.V)
		}
	}
	if len(a.Binds) != len(b.Binds) {
		return sign(len(a.Binds) > len(b.Binds))
	}
	return 0
}

func sign(behind bool) int {
	if behind {
		return 1
	}
	return -1
}

// rational is a number, as math/big has it.
func rational(v api.Value) *big.Rat {
	n, _ := new(big.Rat).SetString(v.S)
	return n
}

// values is the order of right ones, as the words of chapter 4 go.
func values(a, b api.Value) int {
	if a.Kind != b.Kind {
		return sign(a.Kind > b.Kind)
	}
	if a.Kind == api.Num || a.Kind == api.Id {
		return rational(a).Cmp(rational(b))
	}
	return strings.Compare(a.S, b.S)
}

// bound is a variable's value; false: it has none.
func bound(t api.Tuple, name string) (api.Value, bool) {
	for _, b := range t.Binds {
		if b.Name == name {
			return b.V, true
		}
	}
	return api.Value{}, false
}

// with is a tuple with one more variable, by their names' order; false: that has another value.
func with(t api.Tuple, name string, v api.Value) (api.Tuple, bool) {
	if was, has := bound(t, name); has {
		return t, was == v
	}
	t.Binds = append(slices.Clone(t.Binds), api.Bind{Name: name, V: v})
	slices.SortFunc(t.Binds, func(a, b api.Bind) int { return strings.Compare(a.Name, b.Name) })
	return t, true
}

// merged is two tuples as one; false: a variable has unlike values.
func merged(a, b api.Tuple) (api.Tuple, bool) {
	ids := slices.Concat(a.Ids, b.Ids)
	for _, x := range b.Binds {
		var is bool
		if a, is = with(a, x.Name, x.V); !is {
			return api.Tuple{}, false
		}
	}
	return api.Tuple{Binds: a.Binds, Ids: ids}, true
}

// results is what comes of tuples, by groups.
func results(c api.Cond, rows []api.Tuple) []api.Tuple {
	var keys []api.Tuple
	var folds [][]api.Value
	add := func(key api.Tuple) int {
		for i, k := range keys {
			if alike(k, key) {
				return i
			}
		}
		keys, folds = append(keys, key), append(folds, nil)
		return len(keys) - 1
	}
	if len(c.By) == 0 {
		add(api.Tuple{})
	}
	for _, t := range rows {
		v, counts := bound(t, c.Arg)
		var key api.Tuple
		for _, name := range c.By {
			one, has := bound(t, name)
			key, _ = with(key, name, one)
			counts = counts && has
		}
		if counts && (v.Kind == api.Num || c.Fold != "sum" && c.Fold != "avg") {
			i := add(key)
			folds[i] = append(folds[i], v)
		}
	}
	for i := range keys {
		keys[i], _ = with(keys[i], c.Var, folded(c.Fold, folds[i]))
	}
	return keys
}

// folded is what comes of values, as the words of chapter 6 go.
func folded(fold string, l []api.Value) api.Value {
	slices.SortStableFunc(l, values)
	switch {
	case fold == "count":
		return num(fmt.Sprint(len(l)))
	case fold == "set":
		return set(l)
	case fold == "sum":
		v, _ := number(sum(l))
		return v
	case len(l) == 0:
		return api.Value{}
	case fold == "min":
		return l[0]
	case fold == "max":
		return l[len(l)-1]
	}
	v, _ := number(sum(l).Mul(sum(l), big.NewRat(1, int64(len(l)))))
	return v
}

func sum(l []api.Value) *big.Rat {
	all := new(big.Rat)
	for _, v := range l {
		all.Add(all, rational(v))
	}
	return all
}

// number is ErrTooMany, if a value has no room for it.
func number(n *big.Rat) (api.Value, api.Errno) {
	if s := n.RatString(); len(s) <= api.MaxNum {
		return num(s), api.OK
	}
	return api.Value{}, api.ErrTooMany
}

// set is that of those of a sorted list that are no sets; none, if it is too long.
func set(l []api.Value) api.Value {
	var texts []string
	for _, v := range l {
		if s := written(v); v.Kind != api.Set && !slices.Contains(texts, s) {
			texts = append(texts, s)
		}
	}
	if s := strings.Join(texts, ", "); len(s) <= api.MaxSet {
		return value(api.Set, s)
	}
	return api.Value{}
}

// worth is what a right expression comes to, as the words of chapter 10 go.
func worth(e api.Expr, t api.Tuple) (api.Value, api.Errno) {
	if e.Op == "" && e.T.Var == "" {
		return e.T.V, api.OK
	}
	if e.Op == "" {
		v, is := bound(t, e.T.Var)
		if !is {
			return v, api.ErrNone
		}
		return v, api.OK
	}
	var l []*big.Rat
	whole := true
	for _, one := range e.L {
		v, err := worth(one, t)
		if err != api.OK {
			return api.Value{}, err
		}
		if whole = whole && v.Kind == api.Num; whole {
			l = append(l, rational(v))
		}
	}
	z := new(big.Rat)
	switch {
	case !whole:
		return api.Value{}, api.ErrType
	case e.Op == "+":
		z.Add(l[0], l[1])
	case e.Op == "-":
		z.Sub(l[0], l[1])
	case e.Op == "*":
		z.Mul(l[0], l[1])
	case l[1].Sign() == 0:
		return api.Value{}, api.ErrZero
	default:
		z.Quo(l[0], l[1])
	}
	return number(z)
}

// holds tells whether a test does.
func holds(op string, a, b api.Expr, t api.Tuple) bool {
	x, err := worth(a, t)
	if err != api.OK {
		return false
	}
	y, err := worth(b, t)
	if err != api.OK {
		return false
	}
	if op == "=" || op == "!=" {
		return (x == y) == (op == "=")
	}
	if x.Kind != api.Num || y.Kind != api.Num {
		return false
	}
	c := rational(x).Cmp(rational(y))
	return op == "<" && c < 0 || op == "<=" && c <= 0 || op == ">" && c > 0 || op == ">=" && c >= 0
}
