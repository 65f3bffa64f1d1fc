package value_test

import (
	"cmp"
	"math/big"
	"math/rand"
	"regexp"
	"slices"
	"strconv"
	"strings"
	"testing"

	"tribunal/api"
	"tribunal/value"
)

// Texts of each kind, as another one tells them.
const (
	wholeForm = `(?:0|[1-9][0-9]*)`
	numForm   = `-?` + wholeForm + `(?:/[1-9][0-9]*)?`
	textForm  = `[ !#-~]{0,100}`
	nameForm  = `[a-z][a-z0-9]{0,23}`
	boolForm  = `(?:true|false)`
	idForm    = `(?:0|[1-9][0-9]{0,8})`
)

func whole(form string) *regexp.Regexp { return regexp.MustCompile(`\A(?:` + form + `)\z`) }

// forms is what S looks like, by the kind, but of a set.
var forms = []*regexp.Regexp{whole(``), whole(numForm), whole(textForm), whole(nameForm), whole(boolForm), whole(idForm)}

// member is what one of a set is written, and what stands behind it.
var member = regexp.MustCompile(`\A(none|` + numForm + `|"` + textForm + `"|'` + nameForm + `|` + boolForm + `|#` + idForm + `)(, [^ ]|\z)`)

// isSingle tells, as these have it, whether v is right, and no set.
func isSingle(v api.Value) bool {
	if v.Kind < api.None || v.Kind > api.Id || !forms[v.Kind].MatchString(v.S) {
		return false
	}
	return v.Kind != api.Num || len(v.S) <= api.MaxNum && number(v.S).RatString() == v.S
}

// number is a text's, as math/big has it.
func number(s string) *big.Rat {
	n, _ := new(big.Rat).SetString(s)
	return n
}

// isRight tells, as these have it, whether v is right.
func isRight(v api.Value) bool {
	if v.Kind != api.Set {
		return isSingle(v)
	}
	_, is := membersOf(v.S)
	return is && len(v.S) <= api.MaxSet
}

// membersOf is what the text of a right set, of any length, has.
func membersOf(s string) ([]api.Value, bool) {
	var l []api.Value
	for s != "" {
		part := member.FindStringSubmatch(s)
		if part == nil {
			return nil, false
		}
		v, is := single(part[1])
		if !is || len(l) > 0 && order(l[len(l)-1], v) >= 0 {
			return nil, false
		}
		l = append(l, v)
		s = strings.TrimPrefix(s[len(part[1]):], ", ")
	}
	return l, true
}

// single is the value, that is no set, that is written s, of all that s can be.
func single(s string) (api.Value, bool) {
	cut := s[min(1, len(s)):]
	for _, v := range []api.Value{{}, num(s), text(strings.TrimSuffix(cut, `"`)), sym(cut), {Kind: api.Bool, S: s}, id(cut)} {
		if isSingle(v) && written(v) == s {
			return v, true
		}
	}
	return api.Value{}, false
}

// written is how a right value is written.
func written(v api.Value) string {
	return map[int]string{api.None: "none", api.Num: v.S, api.Text: `"` + v.S + `"`, api.Sym: "'" + v.S, api.Bool: v.S, api.Id: "#" + v.S, api.Set: "{" + v.S + "}"}[v.Kind]
}

// read is what Read has to answer.
func read(s string) (api.Value, api.Errno) {
	if v, is := single(s); is {
		return v, api.OK
	}
	if v := set(strings.TrimSuffix(strings.TrimPrefix(s, "{"), "}")); isRight(v) && written(v) == s {
		return v, api.OK
	}
	return api.Value{}, api.ErrForm
}

// order is what Cmp has to answer.
func order(a, b api.Value) int {
	switch {
	case a.Kind != b.Kind:
		return cmp.Compare(a.Kind, b.Kind)
	case (a.Kind == api.Num || a.Kind == api.Id) && isRight(a) && isRight(b):
		return number(a.S).Cmp(number(b.S))
	}
	return cmp.Compare(a.S, b.S)
}

// setOf is what SetOf has to answer.
func setOf(l []api.Value) api.Value {
	l = slices.DeleteFunc(slices.Clone(l), func(v api.Value) bool { return !isSingle(v) })
	slices.SortFunc(l, order)
	s := join(slices.Compact(l))
	if len(s) > api.MaxSet {
		return api.Value{}
	}
	return set(s)
}

// join is what values write, in the order in which they come, with commas between.
func join(l []api.Value) string {
	texts := make([]string, len(l))
	for i, v := range l {
		texts[i] = written(v)
	}
	return strings.Join(texts, ", ")
}

func num(s string) api.Value  { return api.Value{Kind: api.Num, S: s} }
func text(s string) api.Value { return api.Value{Kind: api.Text, S: s} }
func sym(s string) api.Value  { return api.Value{Kind: api.Sym, S: s} }
func id(s string) api.Value   { return api.Value{Kind: api.Id, S: s} }
func set(s string) api.Value  { return api.Value{Kind: api.Set, S: s} }

func boolean(s string) api.Value { return api.Value{Kind: api.Bool, S: s} }

// times is s, n times.
func times(s string, n int) string { return strings.Repeat(s, n) }

// brief is a text, cut if it is long.
func brief(s string) string {
	if len(s) > 100 {
		return s[:50] + ".." + s[len(s)-48:]
	}
	return s
}

// singles is right values that are no sets, in order: of each kind, with the edges.
func singles() []api.Value {
	all := []api.Value{
		{},
		num("-" + times("9", 299)), num("-1" + times("0", 298)), num("-1000000000"), num("-10"), num("-9"), num("-2"), num("-3/2"), num("-1"), num("-1/2"), num("-1/3"), num("0"),
		num("1/" + times("9", 298)), num("1/1" + times("0", 297)), num("1/10"), num("1/9"), num("1/3"), num("1/2"), num("2/3"), num("1"), num("3/2"), num("2"), num("9"), num("10"), num("11"), num("99"), num("100"), num("18446744073709551616"), num("1" + times("0", 299)), num(times("9", 300)),
		text(""), text(" "), text("  "), text(" a"), text("!"), text("#1"), text("'"), text("'red"), text(","), text(", "), text(", ,"), text("-1"), text("1"), text("1/2"), text("10"), text("2"), text("A"), text("a"), text("a, b"), text("aa"), text("b"), text("false"), text("none"), text("red"), text("true"), text("{"), text("{1, 2}"), text("{}"), text("}"), text(times("}", 100)), text("~"), text(times("~", 99)), text(times("~", 100)),
		sym("a"), sym("a0"), sym("a0z9"), sym("aa"), sym("b"), sym("false"), sym("none"), sym("not"), sym("red"), sym("true"), sym("z"), sym("z" + times("0", 22)), sym("z" + times("9", 23)), sym(times("z", 24)),
		boolean("false"), boolean("true"),
		id("0"), id("1"), id("2"), id("9"), id("10"), id("11"), id("19"), id("20"), id("99"), id("100"), id("99999999"), id("100000000"), id("999999999"),
	}
	return all
}

// sets is right sets, in order.
func sets() []api.Value {
	all := []api.Value{
		set(""), set(`""`), set(`"", "a"`), set(`", "`), set(`", ", ", a", ",,", "}, {"`), set(`"1, 2"`), set(`"'", 'a`), set("#0"), set("#1, #2, #10"), set("'a"), set("'a, 'b"), set("-1, 0, 1/2, 2, 10"), set("0"), set("1"), set("1, 'a"), set("1, 2"), set("false, true"), set("none"), set(`none, 0, "", 'a, false, #0`), set(`none, 1, "a, b", 'red, true, #7`), set("true"),
		ofBytes(api.MaxSet), ofBytes(api.MaxSet - 1),
	}
	slices.SortFunc(all, func(a, b api.Value) int { return cmp.Compare(a.S, b.S) })
	return all
}

// row is whole numbers from one on, as many as there are to be.
func row(from, many int) []api.Value {
	l := make([]api.Value, many)
	for i := range l {
		l[i] = num(strconv.Itoa(from + i))
	}
	return l
}

// ofBytes is a set of n bytes, a hundred at least, that is right but for n: many numbers of four digits, and a long one.
func ofBytes(n int) api.Value {
	many := (n - 100) / 6
	return set(join(append(row(1000, many), num(times("9", n-6*many)))))
}

// wrongSets is texts of sets that are not right: of another form, not in order, with one twice, with one that is not right, or a set, or too long.
func wrongSets() []api.Value {
	var all []api.Value
	for _, s := range []string{
		" ", ",", ", ", ", 1", "1, ", "1,", ",1", " 1", "1 ", "1,2", "1 , 2", "1,  2", "1, 2 ", " 1, 2", "1\t, 2", "1,\t2", "1,\n2", "1, 2,", "1, 2, ", "1, , 2", "1 2", "1;2", "1, 2\n", "1,, 2", "\"a\" , \"b\"", "\"a\",\"b\"", "\"a\"\"b\"", "\"a\" \"b\"", "'a 'b", "'a'b", "#1#2", "\"a\"1", "1\"a\"",
		"2, 1", "1, 0", "10, 9", "1/2, 1/3", "-1, -2", "0, -1", "'b, 'a", "'a, 1", "true, false", "#2, #1", "#10, #9", "#1, 1", "\"b\", \"a\"", "1, none", "\"\", none", "'a, \"a\"", "true, 'a", "#1, true", "1, 3, 2", "2, 1, 3", "1, 2, 3, 0",
		"1, 1", "none, none", "'a, 'a", "true, true", "#1, #1", "\"\", \"\"", "1, 2, 2, 3", "1, 2, 1", "\"a, b\", \"a, b\"",
		"x", "a", "red", "1x", "1, x", "x, 1", "'", "'A", "'1", "1, '", "#", "1, #", "#01", "#-1", "#1234567890", "01", "1, 02", "2/4", "1, 3/2/1", "3/1", "-0", "1.5", "+1", "1/0", "--1", "True", "nonex", "none ", "NONE", "1, \"a", "\"a", "a\"", "\"", "\"\"\"", "\"a\"b\"", "\"\n\"", "\"\x7f\"", "\"\x1f\"", "\"\u00e9\"", "\"" + times("a", 101) + "\"", "'" + times("a", 25), times("9", 301),
		"{}", "{1}", "{1, 2}", "1, {}", "1, {2}", "{}, {1}", "{}, 1", "1, {2, 3}", "{", "}", "{1", "1}", "1, }", "{, 1", "1, {2", "#1, {}", "none, {}", "\x00", "1\x00", "1, \xff", times("{", 4000), times("{", 2000) + times("}", 2000), times("1, ", 1333) + "1", times("\"", 4000), times(", ", 2000),
	} {
		all = append(all, set(s))
	}
	return append(all, ofBytes(api.MaxSet+1), ofBytes(api.MaxSet+2), ofBytes(2*api.MaxSet), set(times("a", 1000000)), set(times("{", 1000000)), set(times("\"", 1000000)))
}

// wrong is values that are not right: of each kind, and of none.
func wrong() []api.Value {
	all := wrongSets()
	for _, kind := range []int{-1 << 62, -7, -2, -1, 7, 8, 10, 256, 1 << 32, 1 << 62} {
		for _, s := range []string{"", "0", "1", "a", "true", "none"} {
			all = append(all, api.Value{Kind: kind, S: s})
		}
	}
	for kind, texts := range map[int][]string{
		api.None: {" ", "0", "none", "a", "nil", "\x00"},
		api.Num:  {"", " ", "-", "/", "a", "x1", "01", "00", "-0", "+1", "--1", "1.5", "1e3", " 1", "1 ", "1\n", "2/4", "4/2", "3/1", "0/1", "1/0", "1/-2", "1/", "/1", "1/2/3", "1/02", "none", "\u0661", "\xff", times("9", 301), "-" + times("9", 300), "1/" + times("9", 299), times("9", 1900), times("9", 100000), "0" + times("9", 299)},
		api.Text: {"\"", "a\"", "\"a", "a\"b", "\"\"", "\x00", "\x1f", "a\x1fb", "\n", "\t", "a\r", "\x7f", "a\x7f", "\x80", "\xff", "\u00e9", "\u2026", times("a", 101), times(" ", 101), times("a", 100) + "\"", times("a", 99) + "\n", times("a", 100000)},
		api.Sym:  {"", " ", "A", "aB", "Red", "1", "1a", "0", "9z", "a b", " a", "a ", "a-b", "a_b", "_", "_a", "'a", "'", "a'", "?a", "a.", "a\n", "a\x00", "\u00e9", "a\u00e9", "\xff", "`", "{", "a{", "a/", "a:", "a@", "a[", times("a", 25), times("a", 24) + "0", times("a", 24) + " ", times("a", 100000)},
		api.Bool: {"", "True", "TRUE", "False", "t", "f", "tru", "truex", "true ", " true", "yes", "no", "0", "1", "none", "falsetrue", "false\n"},
		api.Id:   {"", " ", "-1", "+1", "01", "00", "a", "1a", "#1", "1/2", "1.0", " 1", "1 ", "1\n", "1000000000", "9999999999", "0000000001", "\u0661", times("9", 100000)},
	} {
		for _, s := range texts {
			all = append(all, api.Value{Kind: kind, S: s})
		}
	}
	for b := range 256 {
		s := string([]byte{byte(b)})
		if b < 32 || b > 126 || b == '"' {
			all = append(all, text(s), text("a"+s), text(s+"a"))
		}
		if b < 'a' || b > 'z' {
			all = append(all, sym(s), sym(s+"a"))
			if b < '0' || b > '9' {
				all = append(all, sym("a"+s), sym("a"+s+"a"), num("1"+s), num(s), id("1"+s), id(s))
			}
		}
	}
	return all
}

// values makes values, the same ones each time.
type values struct {
	*rand.Rand
	singles []api.Value
}

func newValues(seed int64) values { return values{rand.New(rand.NewSource(seed)), singles()} }

// of is n bytes out of those.
func (r values) of(bytes string, n int) string {
	s := make([]byte, n)
	for i := range s {
		s[i] = bytes[r.Intn(len(bytes))]
	}
	return string(s)
}

// single is a right value, that is no set.
func (r values) single() api.Value {
	switch r.Intn(6) {
	case 0:
		return r.singles[r.Intn(len(r.singles))]
	case 1:
		return num(big.NewRat(r.Int63n(1000)-500, 1+r.Int63n(30)).RatString())
	case 2:
		return text(r.of("ab, {}'#1", r.Intn(8)))
	case 3:
		return sym(r.of("abz", 1) + r.of("ab09", r.Intn(5)))
	case 4:
		return boolean(strconv.FormatBool(r.Intn(2) == 0))
	}
	return id(strconv.Itoa(r.Intn(2000)))
}

// list is right values, that are no sets, some of them more than once.
func (r values) list(most int) []api.Value {
	l := make([]api.Value, r.Intn(most+1))
	for i := range l {
		l[i] = r.single()
		if i > 0 && r.Intn(4) == 0 {
			l[i] = l[r.Intn(i)]
		}
	}
	return l
}

// right is a right value.
func (r values) right() api.Value {
	if r.Intn(4) == 0 {
		return setOf(r.list(8))
	}
	return r.single()
}

// checkRead fails, unless s is read as it has to be.
func checkRead(t *testing.T, s string) {
	t.Helper()
	v, err := value.Read(s)
	if want, wantErr := read(s); v != want || err != wantErr {
		t.Fatalf("Read(%q): got %d %q, %d, want %d %q, %d", brief(s), v.Kind, brief(v.S), err, want.Kind, brief(want.S), wantErr)
	}
}
