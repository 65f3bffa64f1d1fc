package parse_test

import (
	"math/rand"
	"slices"
	"strconv"
	"strings"

	"tribunal/api"
	"tribunal/lex"
)

// written is the text of a program, its tokens with one blank between two.
func written(p api.Program) string {
	var w []string
	for _, t := range p.Tmpls {
		w = append(w, "(", "template", t.Name)
		for _, f := range t.Slots {
			w = append(w, "(", f.Name, []string{"none", "num", "text", "sym", "bool"}[f.Type], ")")
		}
		w = append(w, ")")
	}
	for _, r := range p.Rules {
		w = append(w, "(", "rule", r.Name, strconv.Itoa(r.Salience), writtenConds(r.Conds), "(")
		for _, a := range r.Acts {
			w = append(w, writtenAct(a))
		}
		w = append(w, ")", ")")
	}
	return strings.Join(w, " ")
}

func writtenConds(l []api.Cond) string {
	w := []string{"("}
	for _, c := range l {
		w = append(w, writtenCond(c))
	}
	return strings.Join(append(w, ")"), " ")
}

func writtenCond(c api.Cond) string {
	switch {
	case c.As != "":
		return "( as ?" + c.As + " " + writtenPat(c.Pat) + " )"
	case c.Kind == api.CondNot:
		return "( not " + writtenPat(c.Pat) + " )"
	case c.Kind == api.CondIf:
		return "( if " + c.Op + " " + writtenExpr(c.A) + " " + writtenExpr(c.B) + " )"
	case c.Kind == api.CondLet:
		by := "("
		for _, v := range c.By {
			by += " ?" + v
		}
		return "( let ?" + c.Var + " " + c.Fold + " ?" + c.Arg + " " + by + " ) " + writtenConds(c.Over) + " )"
	}
	return writtenPat(c.Pat)
}

func writtenPat(p api.Pat) string {
	s := "( " + p.Tmpl
	for _, one := range p.Slots {
		s += " ( " + one.Name + " " + writtenTerm(one.T) + " )"
	}
	return s + " )"
}

func writtenTerm(t api.Term) string {
	switch {
	case t.Var != "":
		return "?" + t.Var
	case t.V.Kind == api.None:
		return "none"
	case t.V.Kind == api.Text:
		return `"` + t.V.S + `"`
	case t.V.Kind == api.Sym:
		return "'" + t.V.S
	}
	return t.V.S
}

func writtenExpr(e api.Expr) string {
	if e.Op == "" {
		return writtenTerm(e.T)
	}
	return "( " + e.Op + " " + writtenExpr(e.L[0]) + " " + writtenExpr(e.L[1]) + " )"
}

func writtenFills(l []api.Fill) string {
	s := ""
	for _, f := range l {
		s += " ( " + f.Name + " " + writtenExpr(f.E) + " )"
	}
	return s
}

func writtenAct(a api.Act) string {
	switch a.Kind {
	case api.ActAssert:
		return "( assert " + a.Tmpl + writtenFills(a.Fills) + " )"
	case api.ActRetract:
		return "( retract ?" + a.Var + " )"
	case api.ActModify:
		return "( modify ?" + a.Var + writtenFills(a.Fills) + " )"
	case api.ActPrint:
		return "( print " + writtenExpr(a.E) + " )"
	}
	return "( halt )"
}

// maker makes programs and texts, the same ones each time.
type maker struct{ *rand.Rand }

func newMaker(seed int64) maker { return maker{rand.New(rand.NewSource(seed))} }

// one is one of those.
func one[T any](m maker, those ...T) T { return those[m.Intn(len(those))] }

// some is as many as may be of what is made, none among them.
func some[T any](m maker, most int, what func() T) []T {
	var l []T
	for range m.Intn(most + 1) {
		l = append(l, what())
	}
	return l
}

// names is names such as the chapter knows, and others.
func names() []string {
	return []string{"template", "rule", "as", "not", "if", "let", "assert", "retract", "modify", "print", "halt", "num", "text", "sym", "bool", "count", "set", "a", "b2", "truea", "nones", "is", "stop", "exists", "id", times("z", 24)}
}

// name is any of the names.
func (m maker) name() string { return one(m, names()...) }

func (m maker) value() api.Value {
	return one(m, api.Value{}, api.Value{Kind: api.Num, S: "0"}, api.Value{Kind: api.Num, S: "-3/2"}, api.Value{Kind: api.Num, S: "1001"},
		api.Value{Kind: api.Text}, api.Value{Kind: api.Text, S: "(halt) '?"}, api.Value{Kind: api.Sym, S: "as"}, api.Value{Kind: api.Bool, S: "true"}, api.Value{Kind: api.Bool, S: "false"})
}

func (m maker) term() api.Term {
	if m.Intn(2) == 0 {
		return api.Term{Var: m.name()}
	}
	return api.Term{V: m.value()}
}

func (m maker) expr() api.Expr {
	if m.Intn(5) < 3 {
		return api.Expr{T: m.term()}
	}
	return api.Expr{Op: one(m, "+", "-", "*", "/"), L: []api.Expr{m.expr(), m.expr()}}
}

func (m maker) fill() api.Fill { return api.Fill{Name: m.name(), E: m.expr()} }

func (m maker) field() api.Field { return api.Field{Name: m.name(), Type: 1 + m.Intn(4)} }

func (m maker) slot() api.Slot { return api.Slot{Name: m.name(), T: m.term()} }

func (m maker) pat() api.Pat { return api.Pat{Tmpl: m.name(), Slots: some(m, 3, m.slot)} }

// cond is a condition, not very deep.
func (m maker) cond(deep int) api.Cond {
	switch kind := m.Intn(5); {
	case kind == 0:
		return api.Cond{Kind: api.CondPat, As: m.name(), Pat: m.pat()}
	case kind == 1:
		return api.Cond{Kind: api.CondNot, Pat: m.pat()}
	case kind == 2:
		return api.Cond{Kind: api.CondIf, Op: one(m, "<", "<=", ">", ">=", "=", "!="), A: m.expr(), B: m.expr()}
	case kind == 3 && deep < 4:
		return api.Cond{Kind: api.CondLet, Var: m.name(), Fold: m.name(), Arg: m.name(), By: some(m, 3, m.name), Over: m.conds(deep + 1)}
	}
	c := api.Cond{Kind: api.CondPat, Pat: m.pat()}
	for slices.Contains([]string{"as", "not", "if", "let"}, c.Pat.Tmpl) {
		c.Pat.Tmpl = m.name()
	}
	return c
}

func (m maker) conds(deep int) []api.Cond {
	return some(m, 3, func() api.Cond { return m.cond(deep) })
}

func (m maker) act() api.Act {
	switch 1 + m.Intn(5) {
	case api.ActAssert:
		return api.Act{Kind: api.ActAssert, Tmpl: m.name(), Fills: some(m, 3, m.fill)}
	case api.ActRetract:
		return api.Act{Kind: api.ActRetract, Var: m.name()}
	case api.ActModify:
		return api.Act{Kind: api.ActModify, Var: m.name(), Fills: some(m, 3, m.fill)}
	case api.ActPrint:
		return api.Act{Kind: api.ActPrint, E: m.expr()}
	}
	return api.Act{Kind: api.ActHalt}
}

func (m maker) template() api.Template {
	return api.Template{Name: m.name(), Slots: some(m, 4, m.field)}
}

func (m maker) rule() api.Rule {
	return api.Rule{Name: m.name(), Salience: m.Intn(2001) - 1000, Conds: m.conds(0), Acts: some(m, 3, m.act)}
}

func (m maker) program() api.Program {
	return api.Program{Tmpls: some(m, 3, m.template), Rules: some(m, 3, m.rule)}
}

// kinds is tokens of each kind, and of each of the chapter's own words.
func kinds() []api.Token {
	var l []api.Token
	for _, s := range names() {
		l = append(l, name(s))
	}
	for _, s := range []string{"(", ")", "+", "-", "*", "/", "<", "<=", ">", ">=", "=", "!="} {
		l = append(l, sign(s))
	}
	for _, s := range []string{"none", "true", "false", "0", "-1", "1000", "1001", "1/2", `""`, `"a b"`, "'red"} {
		l = append(l, val(s))
	}
	return append(l, variable("x"), variable("if"))
}

// token is one of any kind, brackets among them more often than others.
func (m maker) token() api.Token {
	if m.Intn(3) == 0 {
		return one(m, sign("("), sign(")"))
	}
	return one(m, kinds()...)
}

// nearly is tokens, of which some are left out, put in twice, or in the place of others.
func (m maker) nearly(l []api.Token) []api.Token {
	l = slices.Clone(l)
	for range m.Intn(3) {
		if len(l) == 0 {
			return l
		}
		i := m.Intn(len(l))
		switch m.Intn(4) {
		case 0:
			l = slices.Delete(l, i, i+1)
		case 1:
			l = slices.Insert(l, i, l[i])
		case 2:
			l = slices.Insert(l, i, m.token())
		default:
			l[i] = m.token()
		}
	}
	return l
}

// spread is a text of tokens, with blanks of any kind where they may stand, and none at some places where none are needed.
func (m maker) spread(l []api.Token) string {
	s := m.blanks(2)
	for i, t := range l {
		s += lex.Join([]api.Token{t})
		if alone := bracket(t) || i+1 < len(l) && bracket(l[i+1]); !alone {
			s += one(m, " ", "\n", "\t", "\r")
		}
		s += m.blanks(2)
	}
	return s
}

// bracket tells whether blanks need not stand beside a token.
func bracket(t api.Token) bool { return t.Kind == api.TokSign && (t.S == "(" || t.S == ")") }

// blanks is some of them, or none.
func (m maker) blanks(most int) string {
	return strings.Join(some(m, most, func() string { return one(m, " ", "\n", "\t", "\r") }), "")
}

// text is any text: of a program, of nearly one, of any tokens, or of none.
func (m maker) text() string {
	l, _, _ := lex.Lex(written(m.program()))
	switch m.Intn(6) {
	case 0:
		return m.spread(l)
	case 1:
		return m.spread(some(m, 12, m.token))
	case 2:
		s := m.spread(l)
		i := m.Intn(len(s) + 1)
		return s[:i] + one(m, "#", "A", "?", `"`, "é", "{", ",", "\x00", "6/4", "a9B") + s[i:]
	}
	return m.spread(m.nearly(l))
}
