package show_test

import (
	"math/rand"
	"slices"
	"strings"

	"tribunal/api"
	"tribunal/lex"
)

// samples is texts of programs, of each kind of item.
func samples() []string {
	return []string{
		"", "(template a)",
		"(template order (by sym) (total num) (what text) (paid bool))",
		"(template template (rule num) (as bool))",
		"(rule r 0 () ())",
		"(rule rule -1000 ((a)) ((halt)))",
		"(rule r 1000 ((a (x 1) (y ?y) (z none)) (b)) ((assert a) (assert b (x ?y) (if (+ 1 ?y)))))",
		"(rule r 1 ((as ?f (a)) (as ?not (not (as 'as)))) ((retract ?f) (modify ?not) (modify ?f (x 1) (y (* ?x ?x)))))",
		"(rule r -1 ((not (a)) (not (if (x true))) (if <= 1 ?x) (if != (/ 1 2) (- ?x \"a  b\"))) ((print -1/2) (print (+ (+ 1 2) (+ ?x 4)))))",
		"(rule r 7 ((let ?v count ?x () ()) (let ?v sum ?x (?y ?z) ((a) (let ?w let ?z (?z) ((not (let))))))) ((halt) (halt)))",
		"(template a (x num)) (rule r 0 ((a (x ?x))) ((print ?x))) (template b) (rule s 0 () ())",
		"(rule template 1000 ((template) (rule (rule \"\")) (as ?as (as)) (as ?if (if)) (as ?let (let)) (not (not))) ())",
		"(rule r 0 ((if < 1 2) (if <= 1 2) (if > 1 2) (if >= 1 2) (if = 1 2) (if != 1 2)) ((print (+ 1 2)) (print (- 1 2)) (print (* 1 2)) (print (/ 1 2)) (print none) (print 'none) (print \"none\")))",
	}
}

// names is names such as programs' texts know, and others.
func names() []string {
	return []string{"template", "rule", "as", "not", "if", "let", "assert", "retract", "modify", "print", "halt", "num", "text", "sym", "bool", "none", "true", "false", "count", "sum", "set", "a", "b2", "truea", times("z", 24)}
}

// anyNames is names, and what is none.
func anyNames() []string {
	return append(names(), "", " ", "A", "a b", "?", "?x", "(", ")", "#1", "1", "-", "'a", `"`, "\n", "\x00\xff", "é", times("long", 2000))
}

// maker makes programs and texts, the same ones each time.
type maker struct {
	*rand.Rand
	wild bool // are they such as no text has, too?
}

func newMaker(seed int64) maker { return maker{Rand: rand.New(rand.NewSource(seed))} }

func newWildMaker(seed int64) maker { return maker{rand.New(rand.NewSource(seed)), true} }

// one is one of those.
func one[T any](m maker, those ...T) T { return those[m.Intn(len(those))] }

// some is as many as may be of what is made, none among them.
func some[T any](m maker, most int, what func() T) []T {
	var l []T
	for range m.Intn(most + 1) {
		l = append(l, what())
	}
	return l
}

// name is a name that a text may have.
func (m maker) name() string {
	if m.wild && m.Intn(4) == 0 {
		return one(m, anyNames()...)
	}
	return one(m, slices.DeleteFunc(names(), func(s string) bool { return slices.Contains([]string{"none", "true", "false"}, s) })...)
}

func (m maker) value() api.Value {
	if m.wild && m.Intn(3) == 0 {
		return one(m, append(wrongValues(), of(api.Id, "7"), of(api.Set, "1, 'a"))...)
	}
	return one(m, api.Value{}, of(api.Num, "0"), of(api.Num, "-3/2"), of(api.Num, "1001"), of(api.Text, ""), of(api.Text, "(halt) '?"), of(api.Sym, "as"), of(api.Sym, "none"), of(api.Bool, "true"), of(api.Bool, "false"))
}

func (m maker) term() api.Term {
	switch {
	case m.wild && m.Intn(4) == 0:
		return api.Term{Var: m.name(), V: m.value()}
	case m.Intn(2) == 0:
		return api.Term{Var: m.name()}
	}
	return api.Term{V: m.value()}
}

func (m maker) expr() api.Expr {
	switch {
	case m.wild && m.Intn(4) == 0:
		return api.Expr{Op: one(m, "", "+", "<", "a", "(", " "), T: m.term(), L: some(m, 2, m.expr)}
	case m.Intn(5) < 3:
		return api.Expr{T: m.term()}
	}
	return two(one(m, "+", "-", "*", "/"), m.expr(), m.expr())
}

func (m maker) fill() api.Fill { return api.Fill{Name: m.name(), E: m.expr()} }

func (m maker) field() api.Field {
	if m.wild {
		return api.Field{Name: m.name(), Type: m.Intn(9) - 1}
	}
	return api.Field{Name: m.name(), Type: 1 + m.Intn(4)}
}

func (m maker) slot() api.Slot { return api.Slot{Name: m.name(), T: m.term()} }

func (m maker) pat() api.Pat { return api.Pat{Tmpl: m.name(), Slots: some(m, 3, m.slot)} }

// cond is a condition, not very deep.
func (m maker) cond(deep int) api.Cond {
	kind := m.Intn(5)
	switch {
	case m.wild && m.Intn(4) == 0 && deep < 4:
		return api.Cond{Kind: m.Intn(7) - 1, As: m.name(), Pat: m.pat(), Op: m.name(), A: m.expr(), B: m.expr(), Var: m.name(), Fold: m.name(), Arg: m.name(), By: some(m, 3, m.name), Over: m.conds(deep + 1)}
	case kind == 0:
		return api.Cond{Kind: api.CondPat, As: m.name(), Pat: m.pat()}
	case kind == 1:
		return api.Cond{Kind: api.CondNot, Pat: m.pat()}
	case kind == 2:
		return api.Cond{Kind: api.CondIf, Op: one(m, "<", "<=", ">", ">=", "=", "!="), A: m.expr(), B: m.expr()}
	case kind == 3 && deep < 4:
		return api.Cond{Kind: api.CondLet, Var: m.name(), Fold: m.name(), Arg: m.name(), By: some(m, 3, m.name), Over: m.conds(deep + 1)}
	}
	c := api.Cond{Kind: api.CondPat, Pat: m.pat()}
	for slices.Contains([]string{"as", "not", "if", "let"}, c.Pat.Tmpl) && !m.wild {
		c.Pat.Tmpl = m.name()
	}
	return c
}

func (m maker) conds(deep int) []api.Cond {
	return some(m, 3, func() api.Cond { return m.cond(deep) })
}

func (m maker) act() api.Act {
	switch kind := 1 + m.Intn(5); {
	case m.wild && m.Intn(4) == 0:
		return api.Act{Kind: m.Intn(8) - 1, Tmpl: m.name(), Var: m.name(), Fills: some(m, 3, m.fill), E: m.expr()}
	case kind == api.ActAssert:
		return api.Act{Kind: kind, Tmpl: m.name(), Fills: some(m, 3, m.fill)}
	case kind == api.ActRetract:
		return api.Act{Kind: kind, Var: m.name()}
	case kind == api.ActModify:
		return api.Act{Kind: kind, Var: m.name(), Fills: some(m, 3, m.fill)}
	case kind == api.ActPrint:
		return api.Act{Kind: kind, E: m.expr()}
	}
	return api.Act{Kind: api.ActHalt}
}

func (m maker) template() api.Template {
	return api.Template{Name: m.name(), Slots: some(m, 4, m.field)}
}

func (m maker) rule() api.Rule {
	n := m.Intn(2001) - 1000
	if m.wild {
		n = one(m, n, int(m.Uint64()))
	}
	return api.Rule{Name: m.name(), Salience: n, Conds: m.conds(0), Acts: some(m, 3, m.act)}
}

func (m maker) program() api.Program {
	return api.Program{Tmpls: some(m, 3, m.template), Rules: some(m, 3, m.rule)}
}

// text is a text of a program, its items in any order, with blanks of any kind.
func (m maker) text() string {
	var items []string
	for _, t := range some(m, 3, m.template) {
		items = append(items, toldTemplate(t))
	}
	for _, r := range some(m, 3, m.rule) {
		items = append(items, toldRule(r))
	}
	m.Shuffle(len(items), func(i, j int) { items[i], items[j] = items[j], items[i] })
	return m.spread(tokens(strings.Join(items, "\n")))
}

// tokens is those of a text; none, if it has none.
func tokens(s string) []api.Token {
	l, _, _ := lex.Lex(s)
	return l
}

// token is one of any kind.
func (m maker) token() api.Token {
	return one(m, tokens("( ) ( ) ( ) + - * / < <= > >= = != none true false 0 -1 1001 1/2 \"\" \"a  b\" 'red ?x ?if as not if let a halt num count")...)
}

// nearly is tokens, of which some are left out, put in twice, or in the place of others.
func (m maker) nearly(l []api.Token) []api.Token {
	l = slices.Clone(l)
	for range 1 + m.Intn(2) {
		if len(l) == 0 {
			return l
		}
		i := m.Intn(len(l))
		switch m.Intn(4) {
		case 0:
			l = slices.Delete(l, i, i+1)
		case 1:
			l = slices.Insert(l, i, l[i])
		default:
			l[i] = m.token()
		}
	}
	return l
}

// spread is a text of tokens, with blanks of any kind where they may stand, and none at some places where none are needed.
func (m maker) spread(l []api.Token) string {
	s := m.blanks(2)
	for i, t := range l {
		s += lex.Join(l[i : i+1])
		if alone := bracket(t) || i+1 < len(l) && bracket(l[i+1]); !alone {
			s += one(m, " ", "\n", "\t", "\r")
		}
		s += m.blanks(2)
	}
	return s
}

// bracket tells whether blanks need not stand beside a token.
func bracket(t api.Token) bool { return t.Kind == api.TokSign && (t.S == "(" || t.S == ")") }

// blanks is some of them, or none.
func (m maker) blanks(most int) string {
	return strings.Join(some(m, most, func() string { return one(m, " ", "\n", "\t", "\r") }), "")
}
