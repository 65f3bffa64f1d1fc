package show_test

import (
	"strings"
	"testing"

	"tribunal/api"
	"tribunal/lex"
	"tribunal/parse"
	"tribunal/show"
)

// items is the tokens of each item of a text that is right.
func items(s string) [][]api.Token {
	var all [][]api.Token
	l, deep, from := tokens(s), 0, 0
	for i, t := range l {
		if t.Kind == api.TokSign && t.S == "(" {
			deep++
		}
		if t.Kind == api.TokSign && t.S == ")" {
			deep--
		}
		if deep == 0 {
			all = append(all, l[from:i+1])
			from = i + 1
		}
	}
	return all
}

// inLines is a text that is right, as it is to be shown: of its own tokens, each item with one blank between two, templates first.
func inLines(s string) string {
	templates, rules := "", ""
	for _, l := range items(s) {
		if line := lex.Join(l) + "\n"; l[1].S == "template" {
			templates += line
		} else {
			rules += line
		}
	}
	return templates + rules
}

// checkBack fails, unless a text is parsed, is shown by its own tokens, and is parsed from there as the same program.
func checkBack(t *testing.T, s string) api.Program {
	t.Helper()
	p, at, err := parse.Parse(s)
	if err != api.OK {
		t.Fatalf("%s: wrong at %d: %d", brief(s), at, err)
	}
	text := show.Show(p)
	is(t, text, inLines(s))
	is(t, text, told(p))
	checkParts(t, p)
	if len(text) <= api.MaxSource {
		checkParsed(t, text, p)
	}
	return p
}

// checkParsed fails, unless a text is parsed as that program, and shown as it stands.
func checkParsed(t *testing.T, text string, want api.Program) {
	t.Helper()
	p, at, err := parse.Parse(text)
	if err != api.OK || !same(p, want) {
		t.Fatalf("%s: got %s, %d, %d, want %s", brief(text), brief(p), at, err, brief(want))
	}
	checkSame(t, p, want, true)
	is(t, show.Show(p), text)
}

// checkParts fails, unless what is shown of a program's parts is what its text has.
func checkParts(t *testing.T, p api.Program) {
	t.Helper()
	lines := strings.SplitAfter(show.Show(p), "\n")
	if len(lines) != len(p.Tmpls)+len(p.Rules)+1 || lines[len(lines)-1] != "" {
		t.Fatalf("%s: %d lines", brief(p), len(lines))
	}
	for i, r := range p.Rules {
		is(t, show.Rule(r)+"\n", lines[len(p.Tmpls)+i])
		rest := show.Rule(api.Rule{Name: r.Name, Salience: r.Salience})
		conds, acts := "", ""
		for _, c := range r.Conds {
			conds += show.Cond(c) + " "
		}
		for _, a := range r.Acts {
			acts += show.Act(a) + " "
		}
		is(t, show.Rule(r), strings.TrimSuffix(rest, "( ) ( ) )")+"( "+conds+") ( "+acts+") )")
	}
}

// parted is a text of another one's tokens, with blanks between two.
func parted(s, blanks string) string {
	var l []string
	for _, one := range tokens(s) {
		l = append(l, lex.Join([]api.Token{one}))
	}
	return strings.Join(l, blanks)
}

// P12.2 (there and back): texts of each kind of item, as they are, with more blanks, and with as few as may be.
func TestThereAndBack(t *testing.T) {
	m := newMaker(3)
	for _, s := range samples() {
		p := checkBack(t, s)
		for _, other := range []string{
			"\n \t\r" + s + "\r\n\n ", strings.ReplaceAll(s, ") (", ")("), strings.ReplaceAll(s, ") (", ")\t(\r "), lex.Join(tokens(s)), show.Show(p), inLines(s),
			parted(s, "\n"), parted(s, "\t"), parted(s, "\r"), parted(s, "  "), parted(s, " \r\n"), parted(s, times("\n", 20)),
		} {
			checkSame(t, checkBack(t, other), p, true)
		}
		for range 50 {
			checkSame(t, checkBack(t, m.spread(tokens(s))), p, true)
		}
		checkBack(t, s+"\n"+s)
		checkBack(t, s+"(template zz)"+s)
	}
}

// P12.2: random texts, their items in any order, with blanks of any kind.
func TestRandomThereAndBack(t *testing.T) {
	m := newMaker(4)
	for range 3000 {
		if s := m.text(); len(s) <= api.MaxSource {
			checkBack(t, s)
		}
	}
}

// P12.2: texts made of others' tokens, where they are right.
func TestNearlyThereAndBack(t *testing.T) {
	m, right := newMaker(5), 0
	for range 20000 {
		s := m.spread(m.nearly(tokens(one(m, samples()...))))
		if _, _, err := parse.Parse(s); err == api.OK {
			checkBack(t, s)
			right++
		}
	}
	if right < 1500 {
		t.Errorf("just %d texts were right", right)
	}
}

// P12.2: random programs such as a text may have are parsed from what they are shown as.
func TestProgramsBack(t *testing.T) {
	m := newMaker(6)
	for range 3000 {
		p := m.program()
		if text := show.Show(p); len(text) <= api.MaxSource {
			checkParsed(t, text, p)
		}
	}
}

// P12.2: texts whose tokens have room without blanks, but not with them: they are shown whole, and each of their items that has room is parsed from its line.
func TestLongTexts(t *testing.T) {
	for _, s := range []string{
		times("(rule r 0()())", 571), times("(template a(x num))", 420), "(rule r 0()(" + times("(halt)", 1300) + "))", "(rule r 0(" + times("(a)", 2600) + ")())",
		"(rule r 0()((print" + times("(+", 1300) + "?x" + times("?x)", 1300) + ")))", "(template a)" + times("(rule r 0()((halt)))(template b)", 249),
	} {
		p := checkBack(t, s)
		text := show.Show(p)
		if _, at, err := parse.Parse(text); len(text) <= api.MaxSource || at != api.MaxSource || err != api.ErrTooMany {
			t.Fatalf("%s: shown in %d bytes, parsed with %d, %d", brief(s), len(text), at, err)
		}
		for i, line := range strings.SplitAfter(strings.TrimSuffix(text, "\n"), "\n") {
			if len(line) > api.MaxSource {
				continue
			}
			if i < len(p.Tmpls) {
				checkParsed(t, strings.TrimSuffix(line, "\n")+"\n", api.Program{Tmpls: p.Tmpls[i : i+1]})
			} else {
				checkParsed(t, strings.TrimSuffix(line, "\n")+"\n", api.Program{Rules: p.Rules[i-len(p.Tmpls):][:1]})
			}
		}
	}
}

// P12.2: nothing but one blank, or one line feed, stands between two tokens of what is shown, and nothing else anywhere.
func TestOneBlank(t *testing.T) {
	m := newMaker(7)
	for range 2000 {
		text := show.Show(m.program())
		if len(text) > api.MaxSource {
			continue
		}
		l, behind := tokens(text), ""
		for i, one := range l {
			if i > 0 && (one.At != len(behind)+1 || text[one.At-1] != ' ' && text[one.At-1] != '\n') {
				t.Fatalf("%s: what stands ahead of place %d", brief(text), one.At)
			}
			behind = text[:one.At] + lex.Join(l[i:i+1])
		}
		if text != "" && text != behind+"\n" || strings.Count(text, "\n") != len(items(text)) {
			t.Fatalf("%s: what stands behind the last token, or a line feed", brief(text))
		}
	}
}

// P12.3 (same): of programs that are parsed, two and two, just the same ones show alike.
func TestShownAlike(t *testing.T) {
	m := newMaker(8)
	var texts []string
	for _, s := range samples() {
		texts = append(texts, s, lex.Join(tokens(s)), m.spread(tokens(s)))
	}
	for len(texts) < 700 {
		s := m.spread(m.nearly(tokens(one(m, samples()...))))
		if len(texts) > 500 {
			s = m.text()
		}
		if _, _, err := parse.Parse(s); err == api.OK {
			texts = append(texts, s)
		}
	}
	programs, shown, lines := make([]api.Program, len(texts)), make([]string, len(texts)), make([]string, len(texts))
	for i, s := range texts {
		programs[i] = checkBack(t, s)
		shown[i], lines[i] = show.Show(programs[i]), inLines(s)
	}
	alike := 0
	for i, p := range programs {
		for j, q := range programs {
			want := lines[i] == lines[j]
			if (shown[i] == shown[j]) != want || show.Same(p, q) != want {
				t.Fatalf("%s and %s: shown alike %t, the same %t", brief(texts[i]), brief(texts[j]), shown[i] == shown[j], show.Same(p, q))
			}
			if want && i != j {
				alike++
			}
		}
	}
	if alike < 100 {
		t.Errorf("just %d times two were alike", alike)
	}
}

// P12.3: of each sample, each token in whose place another one stands makes another program, that is shown otherwise; or none.
func TestEachToken(t *testing.T) {
	others := tokens("none true 0 -1 1001 1/2 \"\" \"a  b\" 'red ?x ?if ?zz as not if let a halt num bool + / < != assert modify print")
	for _, s := range samples() {
		p := checkBack(t, s)
		l := tokens(s)
		for i, was := range l {
			for _, other := range others {
				l[i] = other
				q, _, err := parse.Parse(lex.Join(l))
				if err != api.OK {
					continue
				}
				want := was.Kind == other.Kind && was.S == other.S
				checkSame(t, p, q, want)
				if (show.Show(p) == show.Show(q)) != want {
					t.Fatalf("%s and %s: shown alike, or not", s, lex.Join(l))
				}
			}
			l[i] = was
		}
	}
}

// P12.3: in what a text does not show programs may differ that are not parsed; they show alike, and are not the same.
func TestNotShown(t *testing.T) {
	c, a := fullCond(), api.Act{Kind: api.ActHalt, Tmpl: "a"}
	c.Kind = api.CondNot
	bare := api.Cond{Kind: api.CondNot, Pat: c.Pat}
	of := func(c api.Cond, a api.Act) api.Program {
		return api.Program{Rules: []api.Rule{{Name: "r", Conds: []api.Cond{c}, Acts: []api.Act{a}}}}
	}
	halt := api.Act{Kind: api.ActHalt}
	for _, both := range [][2]api.Program{
		{of(c, halt), of(bare, halt)}, {of(bare, a), of(bare, halt)},
		{printing(api.Expr{T: api.Term{Var: "x", V: c.Pat.Slots[1].T.V}}), printing(named("x"))},
		{printing(api.Expr{Op: "+", T: api.Term{Var: "x"}}), printing(api.Expr{Op: "+"})},
		{printing(api.Expr{T: api.Term{Var: "x"}, L: []api.Expr{{}}}), printing(named("x"))},
	} {
		is(t, show.Show(both[0]), show.Show(both[1]))
		checkSame(t, both[0], both[1], false)
	}
}
