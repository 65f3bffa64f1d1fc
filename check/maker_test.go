package check_test

import (
	"math/rand"
	"reflect"
	"slices"
	"strconv"

	"tribunal/api"
)

// maker makes programs that may be, and what is known in them, the same ones each time.
type maker struct {
	*rand.Rand
	tmpls []api.Template
}

func newMaker(seed int64, l []api.Template) maker {
	return maker{rand.New(rand.NewSource(seed)), l}
}

// one is one of those.
func one[T any](m maker, those ...T) T { return those[m.Intn(len(those))] }

// variables is the few names that variables have.
func variables() []string {
	return []string{"x", "y", "z", "f", "g", "v", "w", "n", "s", "a", "true", times("q", 24)}
}

// fresh is a name of none that is known; false: all are.
func (m maker) fresh(known []api.Known) (string, bool) {
	l := slices.DeleteFunc(variables(), func(name string) bool { return lookup(known, name).Type >= 0 })
	if len(l) == 0 {
		return "", false
	}
	return one(m, l...), true
}

// ofType is a variable that is known, of one of some types; false: none is.
func (m maker) ofType(known []api.Known, types ...int) (string, bool) {
	var l []string
	for _, k := range known {
		if slices.Contains(types, k.Type) {
			l = append(l, k.Name)
		}
	}
	if len(l) == 0 {
		return "", false
	}
	return one(m, l...), true
}

func (m maker) value(kind int) api.Value {
	switch kind {
	case api.Num:
		return of(kind, one(m, "0", "1", "-1", "7/2", "-1000", times("9", 40)))
	case api.Text:
		return of(kind, one(m, "", "a, b", "(halt)", "?x", "'"))
	case api.Sym:
		return of(kind, one(m, "red", "none", "n", "true"))
	case api.Bool:
		return of(kind, one(m, "true", "false"))
	}
	return api.Value{}
}

// term is one that fits a type; a new variable is known then.
func (m maker) term(known []api.Known, kind int) (api.Term, []api.Known) {
	if name, is := m.ofType(known, kind); is && m.Intn(3) == 0 {
		return api.Term{Var: name}, known
	}
	if name, is := m.fresh(known); is && m.Intn(3) > 0 {
		return api.Term{Var: name}, append(slices.Clip(known), api.Known{Name: name, Type: kind})
	}
	return api.Term{V: m.value(kind)}, known
}

// pat is one that fits, and what is known then.
func (m maker) pat(known []api.Known) (api.Pat, []api.Known) {
	t := one(m, m.tmpls...)
	p := api.Pat{Tmpl: t.Name}
	for _, i := range m.Perm(len(t.Slots))[:m.Intn(min(len(t.Slots), 3)+1)] {
		var term api.Term
		term, known = m.term(known, t.Slots[i].Type)
		p.Slots = append(p.Slots, api.Slot{Name: t.Slots[i].Name, T: term})
	}
	return p, known
}

// expr is one of a type, if there may be one; of a number at most so deep.
func (m maker) expr(known []api.Known, kind int, deep int) api.Expr {
	if kind == api.Num && deep > 1 && m.Intn(3) == 0 {
		return op(one(m, "+", "-", "*", "/"), m.expr(known, kind, deep-1), m.expr(known, kind, deep-1))
	}
	name, is := m.ofType(known, kind)
	if is && (kind > api.Bool || m.Intn(3) > 0) {
		return at(name)
	}
	return api.Expr{T: api.Term{V: m.value(kind)}}
}

// anyType is a type of an expression that there may be.
func (m maker) anyType(known []api.Known) int {
	kind := m.Intn(7)
	if _, is := m.ofType(known, kind); kind > api.Bool && !is {
		return api.Num
	}
	return kind
}

// cond is one that is right behind what is known, with at most deep lets in one another, and what is known then.
func (m maker) cond(known []api.Known, deep int) (api.Cond, []api.Known) {
	switch m.Intn(7) {
	case 0:
		p, _ := m.pat(known)
		return api.Cond{Kind: api.CondNot, Pat: p}, known
	case 1:
		kind := m.anyType(known)
		return api.Cond{Kind: api.CondIf, Op: one(m, "=", "!="), A: m.expr(known, kind, 6), B: m.expr(known, kind, 6)}, known
	case 2:
		return api.Cond{Kind: api.CondIf, Op: one(m, orders()...), A: m.expr(known, api.Num, 6), B: m.expr(known, api.Num, 6)}, known
	case 3, 4:
		if c, behind, is := m.let(known, deep); is {
			return c, behind
		}
	}
	p, known := m.pat(known)
	c := api.Cond{Kind: api.CondPat, Pat: p}
	if name, is := m.fresh(known); is && m.Intn(2) == 0 {
		c.As = name
		known = append(slices.Clip(known), api.Known{Name: name, Type: api.Id, Tmpl: p.Tmpl})
	}
	return c, known
}

// let is one, and what is known then; false: it came to none.
func (m maker) let(known []api.Known, deep int) (api.Cond, []api.Known, bool) {
	if deep == 0 {
		return api.Cond{}, nil, false
	}
	over, inside := m.conds(1+m.Intn(3), deep-1)
	if len(inside) == 0 {
		return api.Cond{}, nil, false
	}
	c := api.Cond{Kind: api.CondLet, Fold: one(m, folds()...), Over: over}
	arg := one(m, inside...)
	c.Arg = arg.Name
	if arg.Type != api.Num && (c.Fold == "sum" || c.Fold == "avg") {
		c.Fold = "count"
	}
	for _, i := range m.Perm(len(inside))[:m.Intn(min(len(inside), 3)+1)] {
		was := lookup(known, inside[i].Name)
		if was.Type >= 0 && was != inside[i] {
			continue
		}
		if was.Type < 0 {
			known = append(slices.Clip(known), inside[i])
		}
		c.By = append(c.By, inside[i].Name)
	}
	name, is := m.fresh(known)
	c.Var = name
	own := api.Known{Name: name, Type: map[string]int{"count": 1, "sum": 1, "avg": 1, "set": 6}[c.Fold]}
	if own.Type == 0 {
		own = api.Known{Name: name, Type: arg.Type, Tmpl: arg.Tmpl}
	}
	return c, append(slices.Clip(known), own), is
}

// conds is so many right conditions, and what is known behind them.
func (m maker) conds(many int, deep int) ([]api.Cond, []api.Known) {
	var l []api.Cond
	var known []api.Known
	for range many {
		var c api.Cond
		c, known = m.cond(known, deep)
		l = append(l, c)
	}
	return l, known
}

// act is a right action, where that is known.
func (m maker) act(known []api.Known) api.Act {
	name, is := m.ofType(known, api.Id)
	switch kind := 1 + m.Intn(5); {
	case kind == api.ActRetract && is:
		return api.Act{Kind: kind, Var: name}
	case kind == api.ActModify && is:
		fills := m.fills(known, lookup(known, name).Tmpl)
		return api.Act{Kind: kind, Var: name, Fills: fills[:m.Intn(len(fills)+1)]}
	case kind == api.ActPrint:
		return api.Act{Kind: kind, E: m.expr(known, m.anyType(known), 6)}
	case kind == api.ActHalt:
		return api.Act{Kind: kind}
	}
	tmpl := one(m, m.tmpls...).Name
	return api.Act{Kind: api.ActAssert, Tmpl: tmpl, Fills: m.fills(known, tmpl)}
}

// fills is right expressions for each slot of a template, in any order.
func (m maker) fills(known []api.Known, tmpl string) []api.Fill {
	var l []api.Fill
	for _, t := range m.tmpls {
		for _, i := range m.Perm(len(t.Slots)) {
			if t.Name == tmpl {
				l = append(l, api.Fill{Name: t.Slots[i].Name, E: m.expr(known, t.Slots[i].Type, 6)})
			}
		}
	}
	return l
}

// rule is a right one of that name, and what is known behind its conditions.
func (m maker) rule(name string) (api.Rule, []api.Known) {
	conds, known := m.conds(m.Intn(6), 5)
	r := api.Rule{Name: name, Salience: m.Intn(2001) - 1000, Conds: conds}
	for range m.Intn(5) {
		r.Acts = append(r.Acts, m.act(known))
	}
	return r, known
}

// program is a right one.
func (m maker) program() api.Program {
	p := api.Program{Tmpls: copied(m.tmpls)}
	for i := range m.Intn(4) {
		r, _ := m.rule("r" + strconv.Itoa(i))
		p.Rules = append(p.Rules, r)
	}
	return p
}

// places is all texts, numbers and lists of a thing.
func places(v reflect.Value) []reflect.Value {
	var l []reflect.Value
	switch v.Kind() {
	case reflect.Struct:
		for i := range v.NumField() {
			l = append(l, places(v.Field(i))...)
		}
	case reflect.Slice:
		l = append(l, v)
		for i := range v.Len() {
			l = append(l, places(v.Index(i))...)
		}
	default:
		l = append(l, v)
	}
	return l
}

// words is texts that may stand, or not, where programs have texts.
func words() []string {
	return append(variables(), "", "X", "zz", "a", "c", "d", "e", "one", "n", "t", "s", "b", "m", "count", "sum", "min", "max", "avg", "set", "<", "<=", "=", "!=", ">", ">=", "+", "-", "*", "/", "0", "1", "2/4", "red", "false", "not", "r0", "r1")
}

// nearly makes some places of a thing others.
func nearly[T any](m maker, thing *T) {
	for range 1 + m.Intn(2) {
		v := one(m, places(reflect.ValueOf(thing).Elem())...)
		switch v.Kind() {
		case reflect.String:
			v.SetString(one(m, words()...))
		case reflect.Int:
			v.SetInt(one(m, v.Int()+1, v.Int()-1, -v.Int(), int64(m.Intn(8))))
		case reflect.Slice:
			m.otherList(v)
		}
	}
}

// otherList takes one of a list, puts one in twice, puts two in each other's places, puts a zero one in, or makes it far longer.
func (m maker) otherList(v reflect.Value) {
	many := v.Len()
	part := func(from, to int) reflect.Value { return v.Slice3(from, to, to) }
	kind := m.Intn(9) / 2
	if many == 0 || kind == 0 {
		v.Set(reflect.Append(part(0, many), reflect.Zero(v.Type().Elem())))
		return
	}
	i, j := m.Intn(many), m.Intn(many)
	switch kind {
	case 1:
		v.Set(reflect.AppendSlice(part(0, i), part(i+1, many)))
	case 2:
		v.Set(reflect.AppendSlice(part(0, i+1), part(j, many)))
	case 3:
		reflect.Swapper(v.Interface())(i, j)
	case 4:
		for range 40 {
			v.Set(reflect.Append(v, v.Index(i)))
		}
	}
}
