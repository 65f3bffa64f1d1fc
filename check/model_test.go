package check_test

import (
	"regexp"
	"slices"

	"tribunal/api"
	"tribunal/value"
)

// model is templates, by which another telling says what check has to.
type model []api.Template

// nameForm is what a name has to be like.
var nameForm = regexp.MustCompile(`\A[a-z][a-z0-9]{0,23}\z`)

func mayName(s string, but ...string) bool {
	return nameForm.MatchString(s) && !slices.Contains(but, s)
}

// slot is the type of a template's slot; -1: there is no such template, 0: no such slot.
func (m model) slot(tmpl, slot string) int {
	for _, t := range m {
		if t.Name != tmpl {
			continue
		}
		for _, f := range t.Slots {
			if f.Name == slot {
				return f.Type
			}
		}
		return 0
	}
	return -1
}

// slots is how many slots a template has; -1: there is none.
func (m model) slots(tmpl string) int {
	for _, t := range m {
		if t.Name == tmpl {
			return len(t.Slots)
		}
	}
	return -1
}

// lookup is what is known of a name; its type is -1, if nothing is.
func lookup(known []api.Known, name string) api.Known {
	for _, k := range known {
		if k.Name == name {
			return k
		}
	}
	return api.Known{Type: -1}
}

func rightTerm(t api.Term) bool {
	if t.Var == "" {
		return value.Right(t.V) && t.V.Kind < 5
	}
	return mayName(t.Var) && t.V == api.Value{}
}

// depth is how deep a right expression is; above 99: it is not right.
func depth(e api.Expr, room int) int {
	if room == 0 {
		return 100
	}
	if e.Op == "" && len(e.L) == 0 && rightTerm(e.T) {
		return 1
	}
	if !slices.Contains([]string{"+", "-", "*", "/"}, e.Op) || len(e.L) != 2 || e.T != (api.Term{}) {
		return 100
	}
	return 1 + max(depth(e.L[0], room-1), depth(e.L[1], room-1))
}

// leaves is an expression's terms.
func leaves(e api.Expr) []api.Term {
	if e.Op == "" {
		return []api.Term{e.T}
	}
	return append(leaves(e.L[0]), leaves(e.L[1])...)
}

// typeOf is an expression's type, or its error.
func typeOf(known []api.Known, e api.Expr) (int, api.Errno) {
	if depth(e, 20) > 6 {
		return 0, api.ErrForm
	}
	types := map[int]int{}
	kind := 0
	for _, t := range leaves(e) {
		kind = t.V.Kind
		if t.Var != "" {
			kind = lookup(known, t.Var).Type
		}
		types[kind]++
	}
	switch {
	case types[-1] > 0:
		return 0, api.ErrNone
	case e.Op == "":
		return kind, api.OK
	case len(types) > 1 || types[1] == 0:
		return 0, api.ErrType
	}
	return 1, api.OK
}

// pattern is what is known behind a pattern, or its error.
func (m model) pattern(known []api.Known, p api.Pat) ([]api.Known, api.Errno) {
	if m.slots(p.Tmpl) < 0 {
		return nil, api.ErrNone
	}
	seen := map[string]bool{}
	for _, s := range p.Slots {
		want := m.slot(p.Tmpl, s.Name)
		if want == 0 || seen[s.Name] {
			return nil, api.ErrArg
		}
		seen[s.Name] = true
		if !rightTerm(s.T) {
			return nil, api.ErrForm
		}
		have := s.T.V.Kind
		if s.T.Var != "" {
			if lookup(known, s.T.Var).Type < 0 {
				known = append(slices.Clip(known), api.Known{Name: s.T.Var, Type: want})
			}
			have = lookup(known, s.T.Var).Type
		}
		if have != want {
			return nil, api.ErrType
		}
	}
	return known, api.OK
}

// parts is a condition's parts, each named, if something stands in it.
func parts(c api.Cond) []string {
	var l []string
	add := func(name string, is bool) {
		if is {
			l = append(l, name)
		}
	}
	add("As", c.As != "")
	add("Pat", c.Pat.Tmpl != "" || len(c.Pat.Slots) > 0)
	add("Op", c.Op != "")
	add("A", !zeroExpr(c.A))
	add("B", !zeroExpr(c.B))
	add("Var", c.Var != "")
	add("Fold", c.Fold != "")
	add("Arg", c.Arg != "")
	add("By", len(c.By) > 0)
	add("Over", len(c.Over) > 0)
	return l
}

func zeroExpr(e api.Expr) bool { return e.Op == "" && e.T == api.Term{} && len(e.L) == 0 }

// within tells whether all of l are among others.
func within(l []string, others ...string) bool {
	for _, s := range l {
		if !slices.Contains(others, s) {
			return false
		}
	}
	return true
}

// conds is what is known behind conditions that stand in so many others, or their error.
func (m model) conds(l []api.Cond, in int) ([]api.Known, api.Errno) {
	if len(l) > 12 {
		return nil, api.ErrTooMany
	}
	var known []api.Known
	for _, c := range l {
		next, err := m.cond(known, c, in)
		if err != api.OK {
			return nil, err
		}
		known = next
	}
	return known, api.OK
}

// cond is what is known behind a condition, or its error.
func (m model) cond(known []api.Known, c api.Cond, in int) ([]api.Known, api.Errno) {
	p := parts(c)
	switch {
	case c.Kind == 1 && within(p, "As", "Pat"):
		return m.fact(known, c)
	case c.Kind == 2 && within(p, "Pat"):
		_, err := m.pattern(known, c.Pat)
		return known, err
	case c.Kind == 3 && within(p, "Op", "A", "B"):
		return known, tested(known, c)
	case c.Kind == 4 && within(p, "Var", "Fold", "Arg", "By", "Over"):
		return m.let(known, c, in)
	}
	return nil, api.ErrForm
}

func (m model) fact(known []api.Known, c api.Cond) ([]api.Known, api.Errno) {
	known, err := m.pattern(known, c.Pat)
	switch {
	case err != api.OK || c.As == "":
		return known, err
	case !mayName(c.As):
		return nil, api.ErrForm
	case lookup(known, c.As).Type >= 0:
		return nil, api.ErrThere
	}
	return append(slices.Clip(known), api.Known{Name: c.As, Type: 5, Tmpl: c.Pat.Tmpl}), api.OK
}

func tested(known []api.Known, c api.Cond) api.Errno {
	op := slices.Index([]string{"=", "!=", "<", "<=", ">", ">="}, c.Op)
	if op < 0 {
		return api.ErrForm
	}
	a, err := typeOf(known, c.A)
	if err != api.OK {
		return err
	}
	b, err := typeOf(known, c.B)
	if err != api.OK {
		return err
	}
	if a != b || a != 1 && op > 1 {
		return api.ErrType
	}
	return api.OK
}

func (m model) let(known []api.Known, c api.Cond, in int) ([]api.Known, api.Errno) {
	fold := 1 + slices.Index([]string{"count", "sum", "min", "max", "avg", "set"}, c.Fold)
	if !mayName(c.Var) {
		return nil, api.ErrForm
	}
	if fold == 0 {
		return nil, api.ErrNone
	}
	if in >= 5 {
		return nil, api.ErrTooMany
	}
	inside, err := m.conds(c.Over, in+1)
	if err != api.OK {
		return nil, err
	}
	arg := lookup(inside, c.Arg)
	if arg.Type < 0 {
		return nil, api.ErrNone
	}
	if (fold == 2 || fold == 5) && arg.Type != 1 {
		return nil, api.ErrType
	}
	known, err = grouped(known, inside, c.By)
	if err != api.OK {
		return nil, err
	}
	if lookup(known, c.Var).Type >= 0 {
		return nil, api.ErrThere
	}
	types := []int{0, 1, 1, arg.Type, arg.Type, 1, 6}
	own := api.Known{Name: c.Var, Type: types[fold]}
	if fold == 3 || fold == 4 {
		own.Tmpl = arg.Tmpl
	}
	return append(slices.Clip(known), own), api.OK
}

// grouped is what is known outside with the variables by which a fold comes, or their error.
func grouped(known, inside []api.Known, by []string) ([]api.Known, api.Errno) {
	for i, name := range by {
		if slices.Contains(by[:i], name) {
			return nil, api.ErrThere
		}
		if lookup(inside, name).Type < 0 {
			return nil, api.ErrNone
		}
	}
	for _, name := range by {
		out, in := lookup(known, name), lookup(inside, name)
		if out.Type >= 0 && (out.Type != in.Type || out.Tmpl != in.Tmpl) {
			return nil, api.ErrType
		}
		if out.Type < 0 {
			known = append(slices.Clip(known), in)
		}
	}
	return known, api.OK
}

// act is an action's error.
func (m model) act(known []api.Known, a api.Act) api.Errno {
	of := []bool{a.Tmpl == "", a.Var == "", len(a.Fills) == 0, zeroExpr(a.E)}
	switch {
	case a.Kind == 1 && of[1] && of[3]:
		if m.slots(a.Tmpl) < 0 {
			return api.ErrNone
		}
		if len(a.Fills) != m.slots(a.Tmpl) {
			return api.ErrArg
		}
		return m.fills(known, a.Tmpl, a.Fills)
	case a.Kind == 2 && of[0] && of[2] && of[3], a.Kind == 3 && of[0] && of[3]:
		k := lookup(known, a.Var)
		if k.Type < 0 {
			return api.ErrNone
		}
		if k.Type != 5 {
			return api.ErrType
		}
		return m.fills(known, k.Tmpl, a.Fills)
	case a.Kind == 4 && of[0] && of[1] && of[2]:
		_, err := typeOf(known, a.E)
		return err
	case a.Kind == 5 && of[0] && of[1] && of[2] && of[3]:
		return api.OK
	}
	return api.ErrForm
}

func (m model) fills(known []api.Known, tmpl string, l []api.Fill) api.Errno {
	seen := map[string]bool{}
	for _, f := range l {
		if m.slot(tmpl, f.Name) <= 0 || seen[f.Name] {
			return api.ErrArg
		}
		seen[f.Name] = true
	}
	for _, f := range l {
		kind, err := typeOf(known, f.E)
		if err != api.OK {
			return err
		}
		if kind != m.slot(tmpl, f.Name) {
			return api.ErrType
		}
	}
	return api.OK
}

// templates is the first error of templates, and its place.
func templates(l []api.Template) (api.Errno, int) {
	if len(l) > 16 {
		return api.ErrTooMany, 16
	}
	seen := map[string]bool{}
	for i, t := range l {
		slots := map[string]bool{}
		right := mayName(t.Name, "as", "not", "if", "let", "true", "false", "none") && len(t.Slots) <= 8
		for _, f := range t.Slots {
			right = right && mayName(f.Name, "true", "false", "none") && !slots[f.Name] && f.Type >= 1 && f.Type <= 4
			slots[f.Name] = true
		}
		if !right {
			return api.ErrForm, i
		}
		if seen[t.Name] {
			return api.ErrThere, i
		}
		seen[t.Name] = true
	}
	return api.OK, 0
}

// fault is a program's first error, and its place.
func fault(p api.Program) (api.Errno, int) {
	if err, at := templates(p.Tmpls); err != api.OK {
		return err, at
	}
	if len(p.Rules) > 32 {
		return api.ErrTooMany, 32
	}
	m, seen := model(p.Tmpls), map[string]bool{}
	for i, r := range p.Rules {
		if !mayName(r.Name, "true", "false", "none") || r.Salience > 1000 || r.Salience < -1000 {
			return api.ErrForm, i
		}
		if seen[r.Name] {
			return api.ErrThere, i
		}
		seen[r.Name] = true
		known, err := m.conds(r.Conds, 0)
		if err != api.OK {
			return err, i
		}
		if len(r.Acts) > 12 {
			return api.ErrTooMany, i
		}
		for _, a := range r.Acts {
			if err := m.act(known, a); err != api.OK {
				return err, i
			}
		}
	}
	return api.OK, 0
}
