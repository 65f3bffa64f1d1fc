package net_test

import (
	"fmt"
	"math/rand"
	"slices"
	"testing"

	"tribunal/api"
	"tribunal/check"
	"tribunal/schema"
)

// maker makes programs that may be, and facts, of few names and values, the same ones each time.
type maker struct {
	*rand.Rand
	tmpls []api.Template
}

func newMaker(t testing.TB, seed int64) maker {
	t.Helper()
	return maker{rand.New(rand.NewSource(seed)), parsed(t, templates).Tmpls}
}

// one is one of those.
func one[T any](m maker, those ...T) T { return those[m.Intn(len(those))] }

// lookup is what is known of a variable; nothing, if it is not known.
func lookup(known []api.Known, name string) (api.Known, bool) {
	i := slices.IndexFunc(known, func(k api.Known) bool { return k.Name == name })
	if i < 0 {
		return api.Known{}, false
	}
	return known[i], true
}

// fresh is a name that is not known.
func (m maker) fresh(known []api.Known) string {
	names := []string{"x", "y", "z", "f", "g", "n", "a", "xx", "true"}
	for range 20 {
		name := one(m, names...)
		if _, is := lookup(known, name); !is {
			return name
		}
	}
	return fmt.Sprint("v", len(known))
}

// ofType is a variable of a type that is known; false: none is.
func (m maker) ofType(known []api.Known, kind int) (string, bool) {
	var l []string
	for _, k := range known {
		if k.Type == kind {
			l = append(l, k.Name)
		}
	}
	if len(l) == 0 {
		return "", false
	}
	return one(m, l...), true
}

// value is one of a type, of two or three.
func (m maker) value(kind int) api.Value {
	switch kind {
	case api.Num:
		return num(one(m, "1", "1", "1", "2", "2", "0"))
	case api.Text:
		return text(one(m, "a", "a", "x=1 #1"))
	case api.Sym:
		return sym(one(m, "a", "a", "b"))
	}
	return value(api.Bool, one(m, "true", "false"))
}

// more is what is known, and one more.
func more(known []api.Known, name string, kind int, tmpl string) []api.Known {
	return append(slices.Clip(known), api.Known{Name: name, Type: kind, Tmpl: tmpl})
}

// term is one that fits a type, and what is known then.
func (m maker) term(known []api.Known, kind int) (api.Term, []api.Known) {
	if name, is := m.ofType(known, kind); is && m.Intn(5) < 2 {
		return api.Term{Var: name}, known
	}
	if m.Intn(6) > 0 {
		name := m.fresh(known)
		return api.Term{Var: name}, more(known, name, kind, "")
	}
	return api.Term{V: m.value(kind)}, known
}

// tmpl is a template, mostly one of the first two.
func (m maker) tmpl() api.Template {
	return m.tmpls[one(m, 0, 0, 0, 0, 0, 0, 0, 0, 1, 1, 1, 1, 2, 3, 4, 4)]
}

// pat is a pattern that fits, and what is known then.
func (m maker) pat(known []api.Known) (api.Pat, []api.Known) {
	t := m.tmpl()
	p := api.Pat{Tmpl: t.Name}
	for _, i := range m.Perm(len(t.Slots))[:m.Intn(min(len(t.Slots), 2)+1)] {
		var term api.Term
		term, known = m.term(known, t.Slots[i].Type)
		p.Slots = append(p.Slots, api.Slot{Name: t.Slots[i].Name, T: term})
	}
	return p, known
}

// expr is one of a type, if there may be one; of a number at most so deep.
func (m maker) expr(known []api.Known, kind int, deep int) api.Expr {
	if kind == api.Num && deep > 1 && m.Intn(3) == 0 {
		return api.Expr{Op: one(m, "+", "-", "*", "/"), L: []api.Expr{m.expr(known, kind, deep-1), m.expr(known, kind, deep-1)}}
	}
	if name, is := m.ofType(known, kind); is && (kind > api.Bool || m.Intn(4) > 0) {
		return api.Expr{T: api.Term{Var: name}}
	}
	return api.Expr{T: api.Term{V: m.value(kind)}}
}

func (m maker) test(known []api.Known) api.Cond {
	c := api.Cond{Kind: api.CondIf, Op: one(m, "=", "!=", "<", "<=", ">", ">=")}
	kind := api.Num
	if c.Op == "=" || c.Op == "!=" {
		if len(known) > 0 {
			kind = one(m, known...).Type
		}
	}
	c.A, c.B = m.expr(known, kind, 3), m.expr(known, kind, 3)
	return c
}

// cond is one that is right behind what is known, with at most deep lets in one another, and what is known then.
func (m maker) cond(known []api.Known, deep int) (api.Cond, []api.Known) {
	switch m.Intn(8) {
	case 0:
		p, _ := m.pat(known)
		return api.Cond{Kind: api.CondNot, Pat: p}, known
	case 1:
		return m.test(known), known
	case 2, 3:
		if deep > 0 {
			if c, behind, is := m.let(known, deep); is {
				return c, behind
			}
		}
	}
	p, known := m.pat(known)
	c := api.Cond{Kind: api.CondPat, Pat: p}
	if m.Intn(3) == 0 {
		c.As = m.fresh(known)
		known = more(known, c.As, api.Id, p.Tmpl)
	}
	return c, known
}

// let is one, and what is known then; false: it came to none.
func (m maker) let(known []api.Known, deep int) (api.Cond, []api.Known, bool) {
	over, inside := m.conds(1+m.Intn(2), deep-1)
	if len(inside) == 0 {
		return api.Cond{}, known, false
	}
	c := api.Cond{Kind: api.CondLet, Fold: one(m, "count", "sum", "min", "max", "avg", "set"), Over: over}
	arg := one(m, inside...)
	c.Arg = arg.Name
	if arg.Type != api.Num && (c.Fold == "sum" || c.Fold == "avg") {
		c.Fold = one(m, "count", "min", "max", "set")
	}
	for _, i := range m.Perm(len(inside))[:m.Intn(min(len(inside), 2)+1)] {
		k := inside[i]
		was, is := lookup(known, k.Name)
		if is && was != k {
			continue
		}
		if !is {
			known = more(known, k.Name, k.Type, k.Tmpl)
		}
		c.By = append(c.By, k.Name)
	}
	c.Var = m.fresh(known)
	own := api.Known{Name: c.Var, Type: map[string]int{"count": 1, "sum": 1, "avg": 1, "set": 6}[c.Fold]}
	if own.Type == 0 {
		own = api.Known{Name: c.Var, Type: arg.Type, Tmpl: arg.Tmpl}
	}
	return c, append(slices.Clip(known), own), true
}

// conds is so many right conditions, and what is known behind them.
func (m maker) conds(many int, deep int) ([]api.Cond, []api.Known) {
	var l []api.Cond
	var known []api.Known
	for range many {
		var c api.Cond
		c, known = m.cond(known, deep)
		l = append(l, c)
	}
	return l, known
}

// program is one of up to so many rules, of up to four conditions; of some the first ones are another rule's.
func (m maker) program(many int) api.Program {
	p := api.Program{Tmpls: copied(m.tmpls)}
	for i := range 1 + m.Intn(many) {
		var l []api.Cond
		var known []api.Known
		if i > 0 && m.Intn(2) == 0 {
			l = copied(one(m, p.Rules...).Conds)
			l = l[:m.Intn(len(l)+1)]
			known = m.known(l)
		}
		for len(l) < 4 && m.Intn(8) > 0 {
			var c api.Cond
			c, known = m.cond(known, 3)
			l = append(l, c)
		}
		p.Rules = append(p.Rules, api.Rule{Name: fmt.Sprint("r", i), Salience: m.Intn(2001) - 1000, Conds: l})
	}
	return p
}

// known is what is known behind conditions that are right.
func (m maker) known(l []api.Cond) []api.Known {
	s, _, _ := schema.New(m.tmpls)
	known, _ := check.Conds(s, l)
	return known
}

// edges is facts' numbers that may not be, or are at an edge of what may be.
func edges() []int {
	return []int{0, -1, -2, 1000000000, 9999999999, 1 << 31, -1 << 31, 1 << 32, 1<<32 + 1, 1<<32 + 7, -1 << 32, 1<<63 - 1, -1 << 63, -1<<63 + 1}
}

// number is one of so few that one is often there already; seldom it is one that may not be, or the greatest one.
func (m maker) number() int {
	if m.Intn(30) == 0 {
		return one(m, append(edges(), 999999999)...)
	}
	return m.Intn(20) + 1
}

// fact is one that mostly fits.
func (m maker) fact() api.Fact {
	t := m.tmpl()
	f := api.Fact{Id: m.number(), Tmpl: t.Name}
	for _, x := range t.Slots {
		f.Vals = append(f.Vals, m.value(x.Type))
	}
	switch m.Intn(60) {
	case 0:
		f.Vals = append(f.Vals, num("1"))
	case 1:
		f.Vals = f.Vals[:max(len(f.Vals)-1, 0)]
	case 2:
		f.Tmpl = one(m, "", "nothere", "P", "p ", "as")
	case 3:
		if len(f.Vals) > 0 {
			f.Vals[0] = one(m, num("2/2"), num("01"), sym("1"), text("1"), api.Value{}, value(api.Id, "1"), value(api.Set, "1"), value(9, "1"))
		}
	}
	return f
}

// step is a call on a net, and tells what that told; few facts stay.
func (m maker) step(b *both) []api.Change {
	b.t.Helper()
	there := b.m.facts
	if len(there) > 0 && m.Intn(14) < len(there) {
		return b.del(one(m, there...).Id)
	}
	if m.Intn(12) == 0 {
		return b.del(m.number())
	}
	return b.add(m.fact())
}
