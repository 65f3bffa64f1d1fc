package engine_test

import (
	"fmt"
	"math"
	"math/rand"
	"slices"
	"testing"

	"tribunal/api"
	"tribunal/check"
	"tribunal/schema"
)

// maker makes programs that may be, and calls, of few names and values, the same ones each time.
type maker struct {
	*rand.Rand
	tmpls []api.Template
}

func newMaker(t testing.TB, seed int64) maker {
	t.Helper()
	return maker{rand.New(rand.NewSource(seed)), parsed(t, templates).Tmpls}
}

// one is one of those.
func one[T any](m maker, those ...T) T { return those[m.Intn(len(those))] }

// lookup is what is known of a variable; nothing, if it is not known.
func lookup(known []api.Known, name string) (api.Known, bool) {
	i := slices.IndexFunc(known, func(k api.Known) bool { return k.Name == name })
	if i < 0 {
		return api.Known{}, false
	}
	return known[i], true
}

// fresh is a name that is not known.
func (m maker) fresh(known []api.Known) string {
	names := []string{"x", "y", "z", "f", "g", "n", "a", "xx", "true"}
	for range 20 {
		name := one(m, names...)
		if _, is := lookup(known, name); !is {
			return name
		}
	}
	return fmt.Sprint("v", len(known))
}

// ofType is a variable of a type that is known; false: none is.
func (m maker) ofType(known []api.Known, kind int) (api.Known, bool) {
	var l []api.Known
	for _, k := range known {
		if k.Type == kind {
			l = append(l, k)
		}
	}
	if len(l) == 0 {
		return api.Known{}, false
	}
	return one(m, l...), true
}

// value is one of a type, of two or three.
func (m maker) value(kind int) api.Value {
	switch kind {
	case api.Num:
		return num(one(m, "1", "1", "1", "2", "2", "0"))
	case api.Text:
		return text(one(m, "a", "a", "x=1 #1"))
	case api.Sym:
		return sym(one(m, "a", "a", "b"))
	}
	return value(api.Bool, one(m, "true", "false"))
}

// more is what is known, and one more.
func more(known []api.Known, name string, kind int, tmpl string) []api.Known {
	return append(slices.Clip(known), api.Known{Name: name, Type: kind, Tmpl: tmpl})
}

// term is one that fits a type, and what is known then.
func (m maker) term(known []api.Known, kind int) (api.Term, []api.Known) {
	if k, is := m.ofType(known, kind); is && m.Intn(5) < 2 {
		return api.Term{Var: k.Name}, known
	}
	if m.Intn(6) > 0 {
		name := m.fresh(known)
		return api.Term{Var: name}, more(known, name, kind, "")
	}
	return api.Term{V: m.value(kind)}, known
}

// tmpl is a template, mostly one of the first two.
func (m maker) tmpl() api.Template {
	return m.tmpls[one(m, 0, 0, 0, 0, 0, 0, 0, 0, 1, 1, 1, 1, 2, 3, 4, 4)]
}

// pat is a pattern that fits, and what is known then.
func (m maker) pat(known []api.Known) (api.Pat, []api.Known) {
	t := m.tmpl()
	p := api.Pat{Tmpl: t.Name}
	for _, i := range m.Perm(len(t.Slots))[:m.Intn(min(len(t.Slots), 2)+1)] {
		var term api.Term
		term, known = m.term(known, t.Slots[i].Type)
		p.Slots = append(p.Slots, api.Slot{Name: t.Slots[i].Name, T: term})
	}
	return p, known
}

// expr is one of a type, if there may be one; of a number at most so deep.
func (m maker) expr(known []api.Known, kind int, deep int) api.Expr {
	if kind == api.Num && deep > 1 && m.Intn(3) == 0 {
		return api.Expr{Op: one(m, "+", "-", "*", "/"), L: []api.Expr{m.expr(known, kind, deep-1), m.expr(known, kind, deep-1)}}
	}
	if k, is := m.ofType(known, kind); is && (kind > api.Bool || m.Intn(4) > 0) {
		return api.Expr{T: api.Term{Var: k.Name}}
	}
	return api.Expr{T: api.Term{V: m.value(kind)}}
}

// anyType is a variable's type, or that of numbers.
func (m maker) anyType(known []api.Known) int {
	if len(known) == 0 {
		return api.Num
	}
	return one(m, known...).Type
}

func (m maker) test(known []api.Known) api.Cond {
	c := api.Cond{Kind: api.CondIf, Op: one(m, "=", "!=", "<", "<=", ">", ">=")}
	kind := api.Num
	if c.Op == "=" || c.Op == "!=" {
		kind = m.anyType(known)
	}
	c.A, c.B = m.expr(known, kind, 3), m.expr(known, kind, 3)
	return c
}

// cond is one that is right behind what is known, with at most deep lets in one another, and what is known then.
func (m maker) cond(known []api.Known, deep int) (api.Cond, []api.Known) {
	switch m.Intn(8) {
	case 0:
		p, _ := m.pat(known)
		return api.Cond{Kind: api.CondNot, Pat: p}, known
	case 1:
		return m.test(known), known
	case 2, 3:
		if deep > 0 {
			if c, behind, is := m.let(known, deep); is {
				return c, behind
			}
		}
	}
	p, known := m.pat(known)
	c := api.Cond{Kind: api.CondPat, Pat: p}
	if m.Intn(2) == 0 {
		c.As = m.fresh(known)
		known = more(known, c.As, api.Id, p.Tmpl)
	}
	return c, known
}

// let is one, and what is known then; false: it came to none.
func (m maker) let(known []api.Known, deep int) (api.Cond, []api.Known, bool) {
	over, inside := m.conds(1+m.Intn(2), deep-1)
	if len(inside) == 0 {
		return api.Cond{}, known, false
	}
	c := api.Cond{Kind: api.CondLet, Fold: one(m, "count", "sum", "min", "max", "avg", "set"), Over: over}
	arg := one(m, inside...)
	if k, is := m.ofType(inside, api.Id); is && m.Intn(3) == 0 {
		arg, c.Fold = k, one(m, "min", "max")
	}
	c.Arg = arg.Name
	if arg.Type != api.Num && (c.Fold == "sum" || c.Fold == "avg") {
		c.Fold = one(m, "count", "min", "max", "set")
	}
	for _, i := range m.Perm(len(inside))[:m.Intn(min(len(inside), 2)+1)] {
		k := inside[i]
		was, is := lookup(known, k.Name)
		if is && was != k {
			continue
		}
		if !is {
			known = more(known, k.Name, k.Type, k.Tmpl)
		}
		c.By = append(c.By, k.Name)
	}
	c.Var = m.fresh(known)
	own := api.Known{Name: c.Var, Type: map[string]int{"count": 1, "sum": 1, "avg": 1, "set": 6}[c.Fold]}
	if own.Type == 0 {
		own = api.Known{Name: c.Var, Type: arg.Type, Tmpl: arg.Tmpl}
	}
	return c, append(slices.Clip(known), own), true
}

// conds is so many right conditions, and what is known behind them.
func (m maker) conds(many int, deep int) ([]api.Cond, []api.Known) {
	var l []api.Cond
	var known []api.Known
	for range many {
		var c api.Cond
		c, known = m.cond(known, deep)
		l = append(l, c)
	}
	return l, known
}

// act is a right action, where that is known.
func (m maker) act(known []api.Known) api.Act {
	k, is := m.ofType(known, api.Id)
	switch kind := one(m, 1, 2, 2, 3, 3, 4, 4, 5); {
	case kind == api.ActRetract && is:
		return api.Act{Kind: kind, Var: k.Name}
	case kind == api.ActModify && is:
		fills := m.fills(known, k.Tmpl)
		return api.Act{Kind: kind, Var: k.Name, Fills: fills[:m.Intn(len(fills)+1)]}
	case kind == api.ActPrint:
		return api.Act{Kind: kind, E: m.expr(known, m.anyType(known), 3)}
	case kind == api.ActHalt && m.Intn(3) == 0:
		return api.Act{Kind: kind}
	}
	tmpl := m.tmpl().Name
	return api.Act{Kind: api.ActAssert, Tmpl: tmpl, Fills: m.fills(known, tmpl)}
}

// fills is right expressions for each slot of a template, in any order.
func (m maker) fills(known []api.Known, tmpl string) []api.Fill {
	var l []api.Fill
	for _, t := range m.tmpls {
		for _, i := range m.Perm(len(t.Slots)) {
			if t.Name == tmpl {
				l = append(l, api.Fill{Name: t.Slots[i].Name, E: m.expr(known, t.Slots[i].Type, 3)})
			}
		}
	}
	return l
}

// program is one of up to so many rules, of up to three conditions and three actions; of some the first conditions are another rule's.
func (m maker) program(many int) api.Program {
	p := api.Program{Tmpls: copied(m.tmpls)}
	for i := range 1 + m.Intn(many) {
		var l []api.Cond
		if i > 0 && m.Intn(3) == 0 {
			l = copied(one(m, p.Rules...).Conds)
			l = l[:m.Intn(len(l)+1)]
		}
		known := m.known(l)
		for len(l) < 3 && m.Intn(5) > 0 {
			var c api.Cond
			c, known = m.cond(known, 2)
			l = append(l, c)
		}
		r := api.Rule{Name: fmt.Sprint("r", i), Salience: one(m, 0, 0, 0, 1, 1, -1, 1000, -1000), Conds: l}
		for range m.Intn(4) {
			r.Acts = append(r.Acts, m.act(known))
		}
		p.Rules = append(p.Rules, r)
	}
	return p
}

// known is what is known behind conditions that are right.
func (m maker) known(l []api.Cond) []api.Known {
	s, _, _ := schema.New(m.tmpls)
	known, _ := check.Conds(s, l)
	return known
}

// right is a random program that may be.
func (m maker) right(t testing.TB, many int) api.Program {
	t.Helper()
	for range 1000 {
		p := m.program(many)
		if err, _ := check.Check(p); err == api.OK {
			return p
		}
	}
	t.Fatal("no program may be")
	return api.Program{}
}

// edges is numbers that no fact has.
func edges() []int {
	return []int{0, -1, -2, 1000000000, 1 << 31, -1 << 31, 1 << 32, 1<<32 + 1, -1 << 32, math.MaxInt, math.MinInt, math.MinInt + 1}
}

// number is that of a fact that is there, or was; seldom one that none ever had.
func (m maker) number(b *model) int {
	switch {
	case m.Intn(15) == 0:
		return one(m, append(edges(), b.given+1)...)
	case len(b.facts) > 0 && m.Intn(6) > 0:
		return one(m, b.facts...).Id
	}
	return m.Intn(b.given+1) + 1
}

// strange is a value that no slot may have.
func (m maker) strange() api.Value {
	return one(m, num("2/2"), num("01"), sym("A"), text("\n"), api.Value{}, value(api.Id, "1"), value(api.Set, "1"), value(9, "1"), num(nines(301)))
}

// fact is a template's name and values, that mostly fit.
func (m maker) fact() (string, []api.Value) {
	t := m.tmpl()
	var vals []api.Value
	for _, f := range t.Slots {
		vals = append(vals, m.value(f.Type))
	}
	switch m.Intn(50) {
	case 0:
		return t.Name, append(vals, num("1"))
	case 1:
		return t.Name, vals[:max(len(vals)-1, 0)]
	case 2:
		return one(m, "", "nothere", "P", "as"), vals
	case 3:
		if len(vals) > 0 {
			vals[m.Intn(len(vals))] = m.strange()
		}
	}
	return t.Name, vals
}

// puts is values of a fact's slots, that mostly fit; sometimes none.
func (m maker) puts(b *model, id int) []api.Put {
	tmpl := "p"
	if i := b.at(id); i >= 0 {
		tmpl = b.facts[i].Tmpl
	}
	slots, _ := b.slots(tmpl)
	var l []api.Put
	for _, i := range m.Perm(len(slots))[:m.Intn(len(slots)+1)] {
		l = append(l, api.Put{Name: slots[i].Name, V: m.value(slots[i].Type)})
	}
	switch m.Intn(25) {
	case 0:
		l = append(l, api.Put{Name: one(m, "", "c", "A", "a", "s"), V: num("1")})
	case 1:
		l = append(l, l...)
	case 2:
		if len(l) > 0 {
			l[m.Intn(len(l))].V = m.strange()
		}
	}
	return l
}

// fuel is little; seldom none, or less than that.
func (m maker) fuel() int {
	return one(m, 1, 1, 1, 2, 2, 3, 3, 4, 5, 0, -1, math.MinInt)
}

// step is a call on an engine; few facts stay.
func (m maker) step(b *both) {
	b.t.Helper()
	if len(b.m.facts) > 8 {
		b.retract(one(m, b.m.facts...).Id)
		return
	}
	switch m.Intn(12) {
	case 0:
		b.retract(m.number(b.m))
	case 1, 2:
		id := m.number(b.m)
		b.modify(id, m.puts(b.m, id))
	case 3, 4, 5:
		b.run(m.fuel())
	default:
		b.assert(m.fact())
	}
}
