package world_test

import (
	"fmt"
	"math/big"
	"regexp"
	"strconv"
	"strings"
	"testing"

	"tribunal/api"
	"tribunal/engine"
	"tribunal/parse"
)

// teller is what a world has to be like: it cuts lines by patterns of its own, asks an engine, and puts texts together by hand.
type teller struct {
	p    api.Program
	e    *engine.Engine
	done int
}

func newTeller(t testing.TB, text string) *teller {
	t.Helper()
	p, _, err := parse.Parse(text)
	if err != api.OK {
		t.Fatalf("%s: no program", brief(text))
	}
	e, err, _ := engine.New(p)
	if err != api.OK {
		t.Fatalf("%s: error %d", brief(text), err)
	}
	return &teller{p: p, e: e}
}

// word is a token: n is a name, v a variable, d a number of at most nine digits, x another value, s a sign; brackets are themselves.
type word struct {
	kind byte
	text string
}

// wordForms is what words look like, by the byte that they are told by; numbers are all x.
var wordForms = []struct {
	kind byte
	form *regexp.Regexp
}{
	{'(', regexp.MustCompile(`\A\(`)},
	{')', regexp.MustCompile(`\A\)`)},
	{'n', regexp.MustCompile(`\A[a-z][a-z0-9]*`)},
	{'v', regexp.MustCompile(`\A\?[a-z][a-z0-9]*`)},
	{'x', regexp.MustCompile(`\A'[a-z][a-z0-9]*`)},
	{'x', regexp.MustCompile(`\A"[ !#-~]{0,100}"`)},
	{'x', regexp.MustCompile(`\A-?[0-9]+(?:/[0-9]+)?[a-z0-9]*`)},
	{'s', regexp.MustCompile(`\A(?:[<>!]=|[-+*/<>=])`)},
}

var (
	gap      = regexp.MustCompile(`\A[ \t\n\r]*`)
	fraction = regexp.MustCompile(`\A-?[0-9]+(?:/[0-9]+)?\z`)
	short    = regexp.MustCompile(`\A[0-9]{1,9}\z`)
	constant = regexp.MustCompile(`\A(?:true|false|none)\z`)
)

// lineForms is what lines look like, by their first names, from behind these up to the last bracket.
var lineForms = map[string]*regexp.Regexp{
	"assert":  regexp.MustCompile(`\A\(nn[dx]*\)\z`),
	"retract": regexp.MustCompile(`\A\(nd\)\z`),
	"modify":  regexp.MustCompile(`\A\(nd(?:\(n[dx]\))*\)\z`),
	"run":     regexp.MustCompile(`\A\(nd\)\z`),
	"query":   regexp.MustCompile(`\A\(n\(.*\)\)\z`),
	"facts":   regexp.MustCompile(`\A\(n\)\z`),
	"agenda":  regexp.MustCompile(`\A\(n\)\z`),
}

// words is a text's; false: it has none, or something else.
func words(text string) ([]word, bool) {
	var l []word
	if len(text) > 8000 {
		return nil, false
	}
	for {
		if text = text[len(gap.FindString(text)):]; text == "" {
			return l, true
		}
		w := firstWord(text)
		if w.kind == 0 {
			return nil, false
		}
		l = append(l, w)
		text = text[len(w.text):]
	}
}

// firstWord is that with which a text begins; one of no kind, if none does, or if it may not be so.
func firstWord(text string) word {
	for _, f := range wordForms {
		s := f.form.FindString(text)
		switch {
		case s == "":
			continue
		case strings.Contains("0123456789", s[:1]) || f.kind == 'x' && s[0] == '-':
			return numberWord(s)
		case f.kind != 's' && s[0] != '"' && len(strings.TrimLeft(s, "?'")) > 24:
			return word{}
		case constant.MatchString(s):
			return word{'x', s}
		}
		return word{f.kind, s}
	}
	return word{}
}

func numberWord(s string) word {
	n, is := new(big.Rat).SetString(s)
	if !fraction.MatchString(s) || len(s) > 300 || !is || n.RatString() != s {
		return word{}
	}
	if short.MatchString(s) {
		return word{'d', s}
	}
	return word{'x', s}
}

// read is the value that is written so, by its first byte.
func read(s string) api.Value {
	kinds := map[string]int{"none": api.None, "true": api.Bool, "false": api.Bool}
	if kind, is := kinds[s]; is {
		return api.Value{Kind: kind, S: strings.TrimPrefix(s, "none")}
	}
	switch s[0] {
	case '\'':
		return api.Value{Kind: api.Sym, S: s[1:]}
	case '"':
		return api.Value{Kind: api.Text, S: s[1 : len(s)-1]}
	}
	return api.Value{Kind: api.Num, S: s}
}

// written is how a value is written.
func written(v api.Value) string {
	signs := map[int]string{api.Num: "%s", api.Text: "\"%s\"", api.Sym: "'%s", api.Bool: "%s", api.Id: "#%s", api.Set: "{%s}", api.None: "none%s"}
	return fmt.Sprintf(signs[v.Kind], v.S)
}

// tupleText is a tuple's, with the blank at its end, if it has anything.
func tupleText(t api.Tuple) string {
	s := ""
	for _, b := range t.Binds {
		s += fmt.Sprintf("%s=%s ", b.Name, written(b.V))
	}
	for _, id := range t.Ids {
		s += fmt.Sprintf("#%d ", id)
	}
	return s
}

// do is what a line has to tell.
func (m *teller) do(line string) string {
	m.done++
	told, err := m.line(line)
	if err != api.OK {
		return wrongLine(err)
	}
	return told
}

// line is the words of the chapter's types.
func (m *teller) line(line string) (string, api.Errno) {
	l, is := words(line)
	shape := ""
	for _, w := range l {
		shape += string(w.kind)
	}
	if !is || len(l) < 3 || lineForms[l[1].text] == nil || !lineForms[l[1].text].MatchString(shape) {
		return "", api.ErrForm
	}
	n, _ := strconv.Atoi(l[2].text)
	switch first, rest := l[1].text, l[2:len(l)-1]; first {
	case "assert":
		var vals []api.Value
		for _, w := range rest[1:] {
			vals = append(vals, read(w.text))
		}
		id, err := m.e.Assert(rest[0].text, vals)
		return fmt.Sprintf("fact %d\n", id), err
	case "retract":
		return "ok\n", m.e.Retract(n)
	case "modify":
		var puts []api.Put
		for i := 1; i < len(rest); i += 4 {
			puts = append(puts, api.Put{Name: rest[i+1].text, V: read(rest[i+2].text)})
		}
		id, err := m.e.Modify(n, puts)
		return fmt.Sprintf("fact %d\n", id), err
	case "run":
		return m.run(n), api.OK
	case "query":
		return m.query(rest)
	case "facts":
		return m.facts(), api.OK
	}
	return m.agenda(), api.OK
}

func (m *teller) run(fuel int) string {
	fired, stop := m.e.Run(fuel)
	var s strings.Builder
	for _, f := range fired {
		fmt.Fprintf(&s, "fired %s %s", m.p.Rules[f.Rule].Name, tupleText(f.T))
		for _, v := range f.Prints {
			fmt.Fprintf(&s, "> %s ", written(v))
		}
		if f.Err != 0 {
			fmt.Fprintf(&s, "error %d ", int(f.Err))
		}
		s.WriteString("\n")
	}
	return s.String() + []string{1: "empty\n", 2: "halt\n", 3: "fuel\n"}[stop]
}

// query reads conditions between a rule's other parts, once their brackets are those of one list.
func (m *teller) query(l []word) (string, api.Errno) {
	open, long := 0, 16
	var texts []string
	for i, w := range l {
		long += len(w.text) + 1
		switch w.kind {
		case '(':
			open++
		case ')':
			open--
		}
		if open == 0 && i < len(l)-1 {
			return "", api.ErrForm
		}
		texts = append(texts, w.text)
	}
	p, _, err := parse.Parse("(rule q 0" + strings.Join(texts, " ") + "())")
	if long > 8000 || err != api.OK {
		return "", api.ErrForm
	}
	rows, err := m.e.Query(p.Rules[0].Conds)
	var s strings.Builder
	for _, t := range rows {
		s.WriteString(tupleText(t) + "\n")
	}
	return s.String() + "end\n", err
}

func (m *teller) facts() string {
	s := ""
	for _, f := range m.e.Facts() {
		s += fmt.Sprintf("#%d %s", f.Id, f.Tmpl)
		for _, v := range f.Vals {
			s += " " + written(v)
		}
		s += "\n"
	}
	return s + "end\n"
}

func (m *teller) agenda() string {
	s := ""
	for _, c := range m.e.Agenda() {
		s += fmt.Sprintf("%s %s\n", m.p.Rules[c.Rule].Name, tupleText(c.T))
	}
	return s + "end\n"
}
