package lex_test

import (
	"slices"
	"strings"
	"testing"

	"tribunal/api"
	"tribunal/lex"
)

// P9.1 (I1): a text, and where its tokens stand.
func TestLex(t *testing.T) {
	for _, c := range []struct {
		s    string
		want []api.Token
	}{
		{"", nil}, {" ", nil}, {"\r\n\t ", nil},
		{"(-3/2 ?x)", []api.Token{{Kind: 4, S: "(", At: 0}, {Kind: 3, S: "-3/2", At: 1}, {Kind: 2, S: "x", At: 6}, {Kind: 4, S: ")", At: 8}}},
		{"( if <= ?a1 'red )", []api.Token{{Kind: 4, S: "(", At: 0}, {Kind: 1, S: "if", At: 2}, {Kind: 4, S: "<=", At: 5}, {Kind: 2, S: "a1", At: 8}, {Kind: 3, S: "'red", At: 12}, {Kind: 4, S: ")", At: 17}}},
		{" \t\"a b\"\n\r none", []api.Token{{Kind: 3, S: `"a b"`, At: 2}, {Kind: 3, S: "none", At: 10}}},
		{"a\n?a\t'a\r1", []api.Token{{Kind: 1, S: "a", At: 0}, {Kind: 2, S: "a", At: 2}, {Kind: 3, S: "'a", At: 5}, {Kind: 3, S: "1", At: 8}}},
	} {
		l, at, err := lex.Lex(c.s)
		if !slices.Equal(l, c.want) || at != 0 || err != api.OK {
			t.Errorf("%q: got %v, %d, %d, want %v", c.s, l, at, err, c.want)
		}
	}
}

// P9.1 (I1): each kind of token alone, with blanks at both ends, and behind and ahead of another one in the midst.
func TestEachKind(t *testing.T) {
	for _, one := range kinds() {
		s := bytesOf(one)
		checkTokens(t, s, one)
		for _, gap := range gaps() {
			checkTokens(t, gap+s, one)
			checkTokens(t, s+gap, one)
			checkTokens(t, gap+s+gap, one)
			checkTokens(t, "("+gap+s+gap+")", sign("("), one, sign(")"))
		}
		if l, _, _ := lex.Lex(" \n" + s); len(l) != 1 || l[0].At != 2 {
			t.Errorf("%q behind blanks: got %v", s, l)
		}
	}
}

// P9.1 (I1): each kind behind each other one, with each sort of blank between, with more of them, and with none.
func TestEachTwoKinds(t *testing.T) {
	for _, a := range kinds() {
		for _, b := range kinds() {
			for _, gap := range gaps() {
				s := bytesOf(a) + gap + bytesOf(b)
				checkTokens(t, s, a, b)
				if l, _, _ := lex.Lex(s); l[1].At != len(bytesOf(a)+gap) {
					t.Errorf("%q: got %v", brief(s), l)
				}
			}
			check(t, bytesOf(a)+bytesOf(b))
			check(t, " "+bytesOf(a)+bytesOf(b)+"\n"+bytesOf(a))
		}
	}
}

// P9.1 (I1): tokens that need no blank between, as their bytes do not go on.
func TestNoBlanks(t *testing.T) {
	for s, want := range map[string][]api.Token{
		"a'b?c":       {name("a"), val("'b"), variable("c")},
		"?c?c":        {variable("c"), variable("c")},
		"'a'a":        {val("'a"), val("'a")},
		`a"b"c"d"`:    {name("a"), val(`"b"`), name("c"), val(`"d"`)},
		`"a"1"b"-1""`: {val(`"a"`), val("1"), val(`"b"`), val("-1"), val(`""`)},
		`"a""b"`:      {val(`"a"`), val(`"b"`)},
		`""""`:        {val(`""`), val(`""`)},
		`""true`:      {val(`""`), val("true")},
		"1-2-3":       {val("1"), val("-2"), val("-3")},
		"1/2-3/4":     {val("1/2"), val("-3/4")},
		"a-1":         {name("a"), val("-1")},
		"a-b":         {name("a"), sign("-"), name("b")},
		"?a-1":        {variable("a"), val("-1")},
		"a/2":         {name("a"), sign("/"), val("2")},
		"1?x":         {val("1"), variable("x")},
		"1'x":         {val("1"), val("'x")},
		`1"x"`:        {val("1"), val(`"x"`)},
		"true?x":      {val("true"), variable("x")},
		"none'none":   {val("none"), val("'none")},
		"true(false)": {val("true"), sign("("), val("false"), sign(")")},
		"(((a)))":     {sign("("), sign("("), sign("("), name("a"), sign(")"), sign(")"), sign(")")},
		"<=1":         {sign("<="), val("1")},
		"<-1":         {sign("<"), val("-1")},
		"a<b>c":       {name("a"), sign("<"), name("b"), sign(">"), name("c")},
		"a!=b":        {name("a"), sign("!="), name("b")},
		"1!=1":        {val("1"), sign("!="), val("1")},
	} {
		checkTokens(t, s, want...)
	}
}

// P9.1 (I1): names, with digits, of 24 bytes and of 25.
func TestNames(t *testing.T) {
	for _, s := range []string{"a", "z", "az", "a0", "a09", "z9z9", "template", "not", "if", "let", "as", "num", times("a", 23), times("z", 24), "q" + times("0", 23)} {
		checkTokens(t, s, name(s))
		checkTokens(t, " "+s+"(", name(s), sign("("))
		checkTokens(t, "?"+s, variable(s))
		checkTokens(t, "'"+s, val("'"+s))
		for _, more := range []string{times("b", 25-len(s)), times("0", 25-len(s)), times("1b", 1000)} {
			checkWrong(t, s+more, 0)
			checkWrong(t, "( "+s+more+" )", 2)
			checkWrong(t, "?"+s+more, 0)
			checkWrong(t, "\n?x ?"+s+more+" ", 4)
			checkWrong(t, "'"+s+more, 0)
			checkWrong(t, "1'"+s+more+"?", 1)
		}
	}
}

// P9.1 (I1): capital letters are no letters of names, so that a name ends ahead of them, and none begins with one.
func TestCapitals(t *testing.T) {
	checkWrong(t, "A", 0)
	checkWrong(t, "Red", 0)
	checkWrong(t, "rEd", 1)
	checkWrong(t, "red reD", 6)
	checkWrong(t, "?A", 0)
	checkWrong(t, "?aA", 2)
	checkWrong(t, " 'A", 1)
	checkWrong(t, "'aA", 2)
	checkWrong(t, "1A", 1)
	checkWrong(t, "1/2A", 3)
	checkWrong(t, "True", 0)
	checkWrong(t, "trueX", 4)
	checkWrong(t, times("a", 24)+"A", 24)
	checkWrong(t, times("a", 25)+"A", 0)
}

// P9.1 (I1): true, false and none are values, as they are; with something behind, or ahead, they are not.
func TestWords(t *testing.T) {
	for _, s := range []string{"true", "false", "none"} {
		checkTokens(t, s, val(s))
		checkTokens(t, "("+s+")", sign("("), val(s), sign(")"))
		for _, more := range []string{"a", "x", "0", "9", "true", "false", "none", "s"} {
			checkTokens(t, s+more, name(s+more))
			checkTokens(t, s+" a"+more, val(s), name("a"+more))
		}
		checkTokens(t, "a"+s, name("a"+s))
		checkTokens(t, s[:len(s)-1], name(s[:len(s)-1]))
		checkTokens(t, s[1:], name(s[1:]))
		checkTokens(t, "?"+s, variable(s))
		checkTokens(t, "'"+s, val("'"+s))
		checkTokens(t, `"`+s+`"`, val(`"`+s+`"`))
		checkTokens(t, s+s, name(s+s))
		checkTokens(t, s+" "+s, val(s), val(s))
		checkWrong(t, strings.ToUpper(s), 0)
	}
}

// P9.1 (I1): "?" and an apostrophe, with nothing behind that begins a name.
func TestMarksAlone(t *testing.T) {
	for _, mark := range []string{"?", "'"} {
		for _, behind := range []string{"", " ", " a", "\na", "1", "1a", "0", "A", "-", "-1", "?", "'", "?a", "'a", "(", ")", `"`, `"a"`, "#", "{", "_", "\x00", "\x80", "\u00e9", "=", times("a", 25), times("a", 8) + times("0", 17)} {
			checkWrong(t, mark+behind, 0)
			checkWrong(t, "\t"+mark+behind, 1)
			checkWrong(t, "(a "+mark+behind, 3)
			checkWrong(t, "1"+mark+behind, 1)
			checkWrong(t, mark+"a"+mark+behind, 2)
		}
	}
}

// P9.1 (I1): numbers, and what looks like one and is none.
func TestNumbers(t *testing.T) {
	for _, s := range []string{"0", "1", "9", "10", "-1", "-10", "1/2", "-1/2", "3/2", "1/10", "1000000007/3", "18446744073709551616", times("9", 299), times("9", 300), "-" + times("9", 299), "1/" + times("9", 298), times("9", 150) + "/1" + times("0", 148)} {
		checkTokens(t, s, val(s))
		checkTokens(t, "("+s+"\n"+s+")", sign("("), val(s), val(s), sign(")"))
		for _, more := range []string{"a", "z", "0a", "a0", "e1", "x", "true", "a/2"} {
			checkWrong(t, s+more, 0)
			checkWrong(t, "a "+s+more+" b", 2)
		}
	}
	for _, s := range []string{"6/4", "2/1", "1/0", "0/0", "06", "00", "01", "007", "-0", "-00", "-01", "0/1", "0/5", "-0/1", "-6/4", "-2/1", "1/00", "1/01", "01/2", "1a", "1/2a", "1/2a3", "1a/2", "0x1", "1e5", "-1a", "-1/2a", "1true", "10/4", times("9", 301), "-" + times("9", 300), "1/" + times("9", 299), times("9", 2000), times("9", 1900) + "/7", "0" + times("9", 200)} {
		checkWrong(t, s, 0)
		checkWrong(t, " "+s+" ", 1)
		checkWrong(t, "( "+s, 2)
		checkWrong(t, "a?b'c\r\n"+s+")", 7)
	}
}

// P9.1 (I1): what is not of a number, though it stands at one.
func TestNumbersAndSigns(t *testing.T) {
	for s, want := range map[string][]api.Token{
		"1/2/3":     {val("1/2"), sign("/"), val("3")},
		"1/2/3/4":   {val("1/2"), sign("/"), val("3/4")},
		"1//2":      {val("1"), sign("/"), sign("/"), val("2")},
		"1/":        {val("1"), sign("/")},
		"-1/":       {val("-1"), sign("/")},
		"1/-2":      {val("1"), sign("/"), val("-2")},
		"1/ 2":      {val("1"), sign("/"), val("2")},
		"1 /2":      {val("1"), sign("/"), val("2")},
		"/2":        {sign("/"), val("2")},
		"1/a":       {val("1"), sign("/"), name("a")},
		"1/?a":      {val("1"), sign("/"), variable("a")},
		"1/=":       {val("1"), sign("/"), sign("=")},
		"1/2/":      {val("1/2"), sign("/")},
		"1/2/a":     {val("1/2"), sign("/"), name("a")},
		"-a":        {sign("-"), name("a")},
		"--1":       {sign("-"), val("-1")},
		"---1":      {sign("-"), sign("-"), val("-1")},
		"--":        {sign("-"), sign("-")},
		"-":         {sign("-")},
		"- 1":       {sign("-"), val("1")},
		"-\n1":      {sign("-"), val("1")},
		"-/2":       {sign("-"), sign("/"), val("2")},
		"-?a":       {sign("-"), variable("a")},
		"-\"1\"":    {sign("-"), val("\"1\"")},
		"+1":        {sign("+"), val("1")},
		"1+1":       {val("1"), sign("+"), val("1")},
		"(- 3 -2)":  {sign("("), sign("-"), val("3"), val("-2"), sign(")")},
		"(-3-2)":    {sign("("), val("-3"), val("-2"), sign(")")},
		"*-1":       {sign("*"), val("-1")},
		"(/ 1/2 3)": {sign("("), sign("/"), val("1/2"), val("3"), sign(")")},
	} {
		checkTokens(t, s, want...)
	}
	checkWrong(t, "1.5", 1)
	checkWrong(t, "1,2", 1)
	checkWrong(t, "1/2/03", 4)
	checkWrong(t, "1/-02", 2)
}

// P9.1 (I1): texts of 0, 100 and 101 bytes, and with signs that stand for something outside.
func TestTexts(t *testing.T) {
	for _, inner := range []string{"", " ", "  ", "a", "A", "1", "true", "a b", "?x", "'a", "'", "(", ")", "(a)", "+", "-", "-1", "*", "/", "<", "<=", ">", ">=", "=", "!=", "!", "?", "#1", "{1, 2}", "&", "\\", "\\n", "~", "a  b", times("a", 99), times(" ", 100), times("?", 100), times("~!", 50)} {
		s := `"` + inner + `"`
		checkTokens(t, s, val(s))
		checkTokens(t, "a"+s+"a", name("a"), val(s), name("a"))
		checkTokens(t, s+s+" "+s, val(s), val(s), val(s))
		checkTokens(t, "1"+s+"-1"+s+"?x"+s, val("1"), val(s), val("-1"), val(s), variable("x"), val(s))
		checkWrong(t, `"`+inner, 0)
		checkWrong(t, `?x "`+inner, 3)
		checkWrong(t, s+`"`, len(s))
		checkWrong(t, s+" "+s+`"`+inner, 2*len(s)+1)
	}
	for _, n := range []int{101, 102, 200, 7000} {
		checkWrong(t, `"`+times("a", n)+`"`, 0)
		checkWrong(t, ` ( "`+times(" ", n)+`" )`, 3)
		checkWrong(t, `"`+times("a", n), 0)
	}
}

// P9.1 (I1): which bytes may stand in a text: 32 to 126; a quotation mark ends it.
func TestBytesOfTexts(t *testing.T) {
	for b := range 256 {
		for _, around := range []string{"", "a", "  "} {
			s := `"` + around + string([]byte{byte(b)}) + around + `"`
			switch {
			case b == '"':
				check(t, s)
			case b >= 32 && b <= 126:
				checkTokens(t, s, val(s))
			default:
				checkWrong(t, s, 0)
				checkWrong(t, "a "+s+" b", 2)
			}
		}
	}
	for _, s := range []string{"\u00e9", "\u2026", "\u0661", "\U0001f600", "\xc3", "\xe2\x80", "\xf0\x9f", "\xff\xfe"} {
		checkWrong(t, `"`+s+`"`, 0)
		checkWrong(t, `"a"`+` "`+s+`"`, 4)
		checkWrong(t, s, 0)
		checkWrong(t, "a"+s, 1)
		checkWrong(t, "1"+s, 1)
		checkWrong(t, "?"+s, 0)
		checkWrong(t, "'a'"+s, 2)
		checkWrong(t, " \t"+s, 2)
	}
}

// P9.1 (I1): each sign, and each two without a blank between: as many bytes as may be are one.
func TestSigns(t *testing.T) {
	for _, a := range signs() {
		checkTokens(t, a, sign(a))
		for _, b := range signs() {
			checkTokens(t, a+" "+b, sign(a), sign(b))
			switch both := a + b; {
			case both == "<=" || both == ">=":
				checkTokens(t, both, sign(both))
			case (a == "<" || a == ">") && b[0] == '=':
				t.Fatalf("%q is not told of", both)
			default:
				checkTokens(t, both, sign(a), sign(b))
				checkTokens(t, "("+both+")", sign("("), sign(a), sign(b), sign(")"))
			}
		}
	}
	checkTokens(t, "<==", sign("<="), sign("="))
	checkTokens(t, "===", sign("="), sign("="), sign("="))
	checkTokens(t, "=<", sign("="), sign("<"))
	checkTokens(t, "<>", sign("<"), sign(">"))
	checkTokens(t, "< =", sign("<"), sign("="))
	checkTokens(t, "!==", sign("!="), sign("="))
}

// P9.1 (I1): "!" is a sign with "=" behind it alone.
func TestExclamationMarks(t *testing.T) {
	for _, behind := range []string{"", " ", " =", "\n=", "!", "!=", "a", "1", "<", "-", "(", `"="`, "?x", "\x00"} {
		checkWrong(t, "!"+behind, 0)
		checkWrong(t, " !"+behind, 1)
		checkWrong(t, "a!"+behind, 1)
		checkWrong(t, "(!=!"+behind, 3)
	}
}

// P9.1 (I1): "=" behind each token.
func TestEqualsBehind(t *testing.T) {
	for _, one := range kinds() {
		s := bytesOf(one)
		if one.Kind == api.TokSign && (s == "<" || s == ">") {
			checkTokens(t, s+"=", sign(s+"="))
		} else {
			checkTokens(t, s+"=", one, sign("="))
		}
		checkTokens(t, s+" =", one, sign("="))
		checkTokens(t, "="+s, sign("="), one)
	}
}

// P9.1 (I1): every byte alone, and behind a token, with a blank between and with none, and ahead of one.
func TestEachByte(t *testing.T) {
	begin := "abcdefghijklmnopqrstuvwxyz0123456789()+-*/<>= \t\n\r"
	for b := range 256 {
		s := string([]byte{byte(b)})
		if strings.Contains(begin, s) {
			if _, err := check(t, s); err != api.OK {
				t.Errorf("byte %d: got %d", b, err)
			}
		} else {
			checkWrong(t, s, 0)
			checkWrong(t, "\n"+s, 1)
		}
		for _, one := range kinds() {
			check(t, bytesOf(one)+s)
			check(t, bytesOf(one)+" "+s)
			check(t, s+bytesOf(one))
			check(t, s+" "+bytesOf(one))
		}
	}
	for _, b := range []byte{0, 1, 8, 11, 12, 14, 28, 31, 127, 128, 133, 160, 255} {
		s := string([]byte{b})
		checkWrong(t, s, 0)
		checkWrong(t, "a"+s+"b", 1)
		checkWrong(t, "a "+s, 2)
		checkWrong(t, s+"a", 0)
	}
}

// P9.1 (I1): a fact's number and a set are no tokens, nor is anything else that is not told.
func TestNoTokens(t *testing.T) {
	for _, s := range []string{"#1", "#0", "#", "#a", "{1}", "{}", "{", "}", "{'a}", "[1]", "]", ",", ", ", ".", ".5", ";", ":", ":=", "&", "&&", "|", "%", "$", "@", "^", "_", "_a", "`", "~", "\\", "!", "\v", "\f", "\x00", "\u00a0", "\u2003", "\ufeff", "\u00e9", "\u00df"} {
		checkWrong(t, s, 0)
		checkWrong(t, " "+s, 1)
		checkWrong(t, "a "+s, 2)
		checkWrong(t, "a"+s, 1)
		checkWrong(t, "12"+s, 2)
		checkWrong(t, "(a ?b 'c \"d\" -1/2 <="+s+" )", 20)
		checkWrong(t, s+" "+s, 0)
	}
	checkWrong(t, "{1} #1", 0)
	checkWrong(t, "a #1 {1}", 2)
}

// P9.1 (I1): where a text is none: at the first byte that begins no token, or whose bytes are none, whatever stands behind.
func TestPlaces(t *testing.T) {
	for _, wrong := range []string{"#", "?", "'", "!", "1a", "-0", "6/4", `"a`, "\x00", "A", times("a", 25), "?" + times("a", 25), "{1}"} {
		for _, ahead := range []string{"", " ", "\t\r\n", "a ", "(", "  a b c  ", "\"#\" ", "-1/2 ", "1/2\n", "<= ", times("( ", 3000)} {
			for _, behind := range []string{"", " ", " a", " #", " ?", "\n" + times(" )", 500), " 1a"} {
				checkWrong(t, ahead+wrong+behind, len(ahead))
			}
		}
	}
}

// P9.1 (I1): of more than 8000 bytes there are no tokens, whatever they are; of 8000 there are.
func TestTooMany(t *testing.T) {
	for _, c := range []struct{ unit, last string }{{"(", ""}, {" ", ""}, {"a ", "b"}, {"\n", "a"}, {"-1", ""}, {`"a"`, ""}, {"1/2 ", "?x"}, {"!= ", "'a"}} {
		s := times(c.unit, 8000)
		s = s[:len(s)-len(s)%len(c.unit)]
		room := (8000 - len(c.last)) / len(c.unit)
		s = s[:room*len(c.unit)] + c.last
		s = times(" ", 8000-len(s)) + s
		if _, err := check(t, s); len(s) != 8000 || err != api.OK {
			t.Errorf("%q, %d bytes: %d", brief(s), len(s), err)
		}
		checkTooMany(t, s+" ")
		checkTooMany(t, " "+s)
		checkTooMany(t, s+"#")
		checkTooMany(t, "#"+s)
		checkTooMany(t, s+s)
	}
	checkWrong(t, "#"+times(" ", 7999), 0)
	checkWrong(t, times(" ", 7999)+"#", 7999)
	checkWrong(t, times("a", 8000), 0)
	checkWrong(t, times("9", 8000), 0)
	checkWrong(t, times("1/", 4000), 0)
	checkTooMany(t, times("#", 8001))
	checkTooMany(t, times("a", 8001))
	checkTooMany(t, times(" ", 8001))
	checkTooMany(t, times(`"`, 8001))
	checkTooMany(t, times("\xff", 1000000))
}

// checkTooMany fails, unless s has too many bytes.
func checkTooMany(t *testing.T, s string) {
	t.Helper()
	check(t, s)
	if l, at, err := lex.Lex(s); len(l) != 0 || at != 8000 || err != api.ErrTooMany {
		t.Errorf("%q, %d bytes: got %v, %d, %d", brief(s), len(s), few(l), at, err)
	}
}

// P9.1 (I1): any text.
func TestAnyText(t *testing.T) {
	m := newMaker(1)
	wrong := 0
	for range 60000 {
		if _, err := check(t, m.any()); err != api.OK {
			wrong++
		}
	}
	if wrong < 5000 || wrong > 55000 {
		t.Errorf("%d are wrong", wrong)
	}
}

// P9.1 (I2): of no token, of one, of each kind, of more.
func TestJoin(t *testing.T) {
	for _, c := range []struct {
		l    []api.Token
		want string
	}{
		{nil, ""}, {[]api.Token{}, ""}, {[]api.Token{name("a")}, "a"}, {[]api.Token{variable("a")}, "?a"}, {[]api.Token{val("'a")}, "'a"}, {[]api.Token{val(`"a b"`)}, `"a b"`}, {[]api.Token{sign("(")}, "("},
		{[]api.Token{name("a"), variable("b"), val("-1/2"), sign("<=")}, "a ?b -1/2 <="},
		{[]api.Token{sign("("), name("halt"), sign(")")}, "( halt )"},
		{[]api.Token{variable("a"), variable("b")}, "?a ?b"},
		{[]api.Token{{Kind: 1, S: "a", At: 7}, {Kind: 2, S: "b", At: 3}, {Kind: 4, S: "-", At: -1}, {Kind: 3, S: "1", At: 1 << 40}}, "a ?b - 1"},
	} {
		if got := lex.Join(c.l); got != c.want {
			t.Errorf("%v: got %q, want %q", c.l, got, c.want)
		}
	}
}

// P9.1 (I2): of tokens of no right kind, and of any S.
func TestJoinOfAny(t *testing.T) {
	texts := []string{"", " ", "a", "A", "?", "?a", "'", "1a", "#1", "\x00", "\xff", "\u00e9", "\n", "( )", `"`, times("a", 10000)}
	kinds := []int{-1 << 63, -2, -1, 0, 1, 2, 3, 4, 5, 6, 258, 1 << 32, 1<<32 + 2, 1<<63 - 1}
	for _, kind := range kinds {
		for _, s := range texts {
			one, want := api.Token{Kind: kind, S: s}, s
			if kind == 2 {
				want = "?" + s
			}
			if got := lex.Join([]api.Token{one}); got != want {
				t.Errorf("%d %q: got %q", kind, brief(s), brief(got))
			}
			if got := lex.Join([]api.Token{one, sign(""), one}); got != want+"  "+want {
				t.Errorf("%d %q, twice: got %q", kind, brief(s), brief(got))
			}
		}
	}
	m := newMaker(2)
	for range 3000 {
		l := m.list(6)
		for i := range l {
			if m.Intn(3) == 0 {
				l[i] = api.Token{Kind: kinds[m.Intn(len(kinds))], S: texts[m.Intn(len(texts))], At: m.Intn(9) - 4}
			}
		}
		if got := lex.Join(l); got != joined(l) {
			t.Fatalf("%v: got %q, want %q", l, brief(got), brief(joined(l)))
		}
	}
}
