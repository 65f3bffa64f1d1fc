package parse_test

import (
	"regexp"
	"slices"
	"strings"

	"tribunal/api"
)

// grammar is what a thing may be made of, as the chapter has it; what is no thing of it is a token.
var grammar = map[string][]string{
	"program":    {"", "item program"},
	"item":       {"( template NAME fields )", "( rule NAME SALIENCE ( conditions ) ( actions ) )"},
	"fields":     {"", "( NAME TYPE ) fields"},
	"conditions": {"", "condition conditions"},
	"condition":  {"( as VAR pattern )", "( not pattern )", "( if TEST expression expression )", "( let VAR NAME VAR ( variables ) ( conditions ) )", "( OTHER slots )"},
	"variables":  {"", "VAR variables"},
	"pattern":    {"( NAME slots )"},
	"slots":      {"", "( NAME term ) slots"},
	"term":       {"VAR", "VALUE"},
	"expression": {"term", "( OPERATION expression expression )"},
	"actions":    {"", "action actions"},
	"action":     {"( assert NAME fills )", "( retract VAR )", "( modify VAR fills )", "( print expression )", "( halt )"},
	"fills":      {"", "( NAME expression ) fills"},
}

// whole is the salience's texts.
var whole = regexp.MustCompile(`\A(0|-?[1-9][0-9]{0,2}|-?1000)\z`)

// fits tells whether a token may stand where the grammar has that one.
func fits(t api.Token, as string) bool {
	switch as {
	case "NAME":
		return t.Kind == api.TokName
	case "VAR":
		return t.Kind == api.TokVar
	case "VALUE":
		return t.Kind == api.TokValue
	case "SALIENCE":
		return t.Kind == api.TokValue && whole.MatchString(t.S)
	case "TYPE":
		return t.Kind == api.TokName && slices.Contains([]string{"num", "text", "sym", "bool"}, t.S)
	case "OTHER":
		return t.Kind == api.TokName && !slices.Contains([]string{"as", "not", "if", "let"}, t.S)
	case "TEST":
		return t.Kind == api.TokSign && slices.Contains([]string{"<", "<=", ">", ">=", "=", "!="}, t.S)
	case "OPERATION":
		return t.Kind == api.TokSign && slices.Contains([]string{"+", "-", "*", "/"}, t.S)
	case "(", ")":
		return t.Kind == api.TokSign && t.S == as
	}
	return t.Kind == api.TokName && t.S == as
}

// hope is what has still to come, so that a program's tokens are all there: first a thing or a token, then the others.
type hope struct {
	first string
	then  *hope
}

// wrongToken is the number of the first token with which these begin no program's, or how many there are, if all of them do, and are none's; false: they are a program's. All that may still come is kept beside each other, so that nothing is to be chosen.
func wrongToken(l []api.Token) (int, bool) {
	hopes := begun()
	for i, t := range l {
		if hopes = behind(hopes, t); len(hopes) == 0 {
			return i, true
		}
	}
	return len(l), !slices.Contains(hopes, nil)
}

// begun is what may come at the beginning.
func begun() []*hope { return opened([]*hope{{"program", nil}}) }

// behind is what may come behind a token, where that may come.
func behind(hopes []*hope, t api.Token) []*hope {
	var left []*hope
	for _, h := range hopes {
		if h != nil && fits(t, h.first) {
			left = append(left, h.then)
		}
	}
	return opened(left)
}

// opened is hopes that begin with tokens, out of any.
func opened(hopes []*hope) []*hope {
	var l []*hope
	for _, h := range hopes {
		if h == nil || grammar[h.first] == nil {
			l = append(l, h)
			continue
		}
		for _, parts := range grammar[h.first] {
			more := h.then
			for _, part := range slices.Backward(strings.Fields(parts)) {
				more = &hope{part, more}
			}
			l = append(l, opened([]*hope{more})...)
		}
	}
	return l
}

// node is a token, or what stands between two brackets.
type node struct {
	t api.Token
	l []node
}

// nodes is what tokens make by their brackets, each of which has its other one.
func nodes(l []api.Token) []node {
	rows := [][]node{nil}
	for _, t := range l {
		top := len(rows) - 1
		switch {
		case t.Kind == api.TokSign && t.S == "(":
			rows = append(rows, nil)
		case t.Kind == api.TokSign && t.S == ")":
			rows[top-1] = append(rows[top-1], node{l: rows[top]})
			rows = rows[:top]
		default:
			rows[top] = append(rows[top], node{t: t})
		}
	}
	return rows[0]
}

// first is what the first token of a list is.
func (n node) first() string { return n.l[0].t.S }

// each is what each of these makes.
func each[T any](l []node, what func(node) T) []T {
	var made []T
	for _, n := range l {
		made = append(made, what(n))
	}
	return made
}

// programOf is which program it is whose tokens these are.
func programOf(l []api.Token) api.Program {
	var p api.Program
	for _, n := range nodes(l) {
		if n.first() == "template" {
			p.Tmpls = append(p.Tmpls, api.Template{Name: n.l[1].t.S, Slots: each(n.l[2:], fieldOf)})
		} else {
			p.Rules = append(p.Rules, api.Rule{Name: n.l[1].t.S, Salience: salienceOf(n.l[2].t.S), Conds: each(n.l[3].l, condOf), Acts: each(n.l[4].l, actOf)})
		}
	}
	return p
}

func fieldOf(n node) api.Field {
	return api.Field{Name: n.first(), Type: map[string]int{"num": 1, "text": 2, "sym": 3, "bool": 4}[n.l[1].t.S]}
}

// salienceOf is the number whose decimals these are.
func salienceOf(s string) int {
	n, sum := 1, 0
	for _, b := range s {
		if b == '-' {
			n = -1
		} else {
			sum = 10*sum + int(b-'0')
		}
	}
	return n * sum
}

func condOf(n node) api.Cond {
	switch n.first() {
	case "as":
		return api.Cond{Kind: 1, As: n.l[1].t.S, Pat: patOf(n.l[2])}
	case "not":
		return api.Cond{Kind: 2, Pat: patOf(n.l[1])}
	case "if":
		return api.Cond{Kind: 3, Op: n.l[1].t.S, A: exprOf(n.l[2]), B: exprOf(n.l[3])}
	case "let":
		return api.Cond{Kind: 4, Var: n.l[1].t.S, Fold: n.l[2].t.S, Arg: n.l[3].t.S, By: each(n.l[4].l, nameOf), Over: each(n.l[5].l, condOf)}
	}
	return api.Cond{Kind: 1, Pat: patOf(n)}
}

func nameOf(n node) string { return n.t.S }

func patOf(n node) api.Pat { return api.Pat{Tmpl: n.first(), Slots: each(n.l[1:], slotOf)} }

func slotOf(n node) api.Slot { return api.Slot{Name: n.first(), T: termOf(n.l[1])} }

func termOf(n node) api.Term {
	if n.t.Kind == api.TokVar {
		return api.Term{Var: n.t.S}
	}
	return api.Term{V: valueOf(n.t.S)}
}

// valueOf is the value that is written so, by its first byte.
func valueOf(s string) api.Value {
	switch {
	case s == "none":
		return api.Value{}
	case s == "true" || s == "false":
		return api.Value{Kind: 4, S: s}
	case s[0] == '"':
		return api.Value{Kind: 2, S: strings.Trim(s, `"`)}
	case s[0] == '\'':
		return api.Value{Kind: 3, S: s[1:]}
	}
	return api.Value{Kind: 1, S: s}
}

func exprOf(n node) api.Expr {
	if n.t.Kind != 0 {
		return api.Expr{T: termOf(n)}
	}
	return api.Expr{Op: n.first(), L: each(n.l[1:], exprOf)}
}

func fillOf(n node) api.Fill { return api.Fill{Name: n.first(), E: exprOf(n.l[1])} }

func actOf(n node) api.Act {
	switch n.first() {
	case "assert":
		return api.Act{Kind: 1, Tmpl: n.l[1].t.S, Fills: each(n.l[2:], fillOf)}
	case "retract":
		return api.Act{Kind: 2, Var: n.l[1].t.S}
	case "modify":
		return api.Act{Kind: 3, Var: n.l[1].t.S, Fills: each(n.l[2:], fillOf)}
	case "print":
		return api.Act{Kind: 4, E: exprOf(n.l[1])}
	}
	return api.Act{Kind: 5}
}
