package value_test

import (
	"cmp"
	"slices"
	"strings"
	"testing"

	"tribunal/api"
	"tribunal/value"
)

// P4.1 (D1): Right, of values of each kind.
func TestRight(t *testing.T) {
	for _, v := range append(singles(), sets()...) {
		if !isRight(v) || !value.Right(v) {
			t.Errorf("%d %q: got %v, want %v", v.Kind, brief(v.S), value.Right(v), isRight(v))
		}
	}
	r := newValues(1)
	for range 3000 {
		if v := r.right(); !value.Right(v) {
			t.Fatalf("%d %q is not right", v.Kind, brief(v.S))
		}
	}
}

// P4.1 (D1): Right and Show, of values that are not right.
func TestNotRight(t *testing.T) {
	for _, v := range wrong() {
		if isRight(v) || value.Right(v) {
			t.Errorf("%d %q is right", v.Kind, brief(v.S))
		}
		if s := value.Show(v); s != "" {
			t.Errorf("%d %q: shown as %q", v.Kind, brief(v.S), brief(s))
		}
	}
}

// P4.1 (D1): how long each may be, to the byte.
func TestRightOfMost(t *testing.T) {
	for _, c := range []struct {
		most int
		of   func(int) api.Value
	}{
		{300, func(n int) api.Value { return num(times("9", n)) }},
		{300, func(n int) api.Value { return num("-" + times("7", n-1)) }},
		{300, func(n int) api.Value { return num("1/" + times("3", n-2)) }},
		{300, func(n int) api.Value { return num("-" + times("9", n-9) + "/1000000") }},
		{100, func(n int) api.Value { return text(times("~", n)) }},
		{100, func(n int) api.Value { return text(times(" ", n)) }},
		{24, func(n int) api.Value { return sym(times("a", n)) }},
		{24, func(n int) api.Value { return sym("z" + times("9", n-1)) }},
		{9, func(n int) api.Value { return id(times("9", n)) }},
		{9, func(n int) api.Value { return id("1" + times("0", n-1)) }},
		{4000, ofBytes},
	} {
		for n := max(1, c.most-3); n <= c.most+3; n++ {
			v := c.of(n)
			if len(v.S) != n && v.Kind != api.Num {
				t.Fatalf("%q is not of %d bytes", brief(v.S), n)
			}
			want := len(v.S) <= c.most
			if got := value.Right(v); got != want || isRight(v) != want {
				t.Errorf("%d, of %d bytes: got %v", v.Kind, len(v.S), got)
			}
			if got := value.Show(v) != ""; got != want {
				t.Errorf("%d, of %d bytes: shown as %q", v.Kind, len(v.S), brief(value.Show(v)))
			}
			if _, err := value.Read(written(v)); (err == api.OK) != want {
				t.Errorf("%d, of %d bytes: read, with %d", v.Kind, len(v.S), err)
			}
		}
	}
}

// P4.1 (D1): which bytes a text may have, a name at its beginning, and behind it.
func TestEachByte(t *testing.T) {
	for b := range 256 {
		s := string([]byte{byte(b)})
		plain := b >= 32 && b <= 126 && b != 34
		for _, v := range []api.Value{text(s), text("a" + s), text(s + "a"), text(times("a", 99) + s)} {
			if value.Right(v) != plain {
				t.Errorf("byte %d in a text: got %v", b, !plain)
			}
		}
		letter, digit := b >= 'a' && b <= 'z', b >= '0' && b <= '9'
		for name, want := range map[string]bool{s: letter, s + "a": letter, s + "0": letter, "a" + s: letter || digit, "a" + s + "a": letter || digit, times("a", 23) + s: letter || digit} {
			if value.Name(name) != want || value.Right(sym(name)) != want {
				t.Errorf("%q as a name: got %v, want %v", name, value.Name(name), want)
			}
		}
	}
}

// P4.1 (D1): Name, of names and of what is none.
func TestName(t *testing.T) {
	for _, s := range []string{"a", "z", "a0", "z9", "red", "r2d2", "not", "true", "false", "none", "aaa", times("a", 23), times("z", 24), "q" + times("0", 23)} {
		if !value.Name(s) {
			t.Errorf("%q is no name", s)
		}
	}
	for _, v := range wrong() {
		if v.Kind == api.Sym && value.Name(v.S) {
			t.Errorf("%q is a name", brief(v.S))
		}
	}
}

// P4.1 (D1): Show, of each kind.
func TestShow(t *testing.T) {
	for _, c := range []struct {
		v    api.Value
		want string
	}{
		{api.Value{}, "none"},
		{num("0"), "0"}, {num("-3/2"), "-3/2"}, {num("7"), "7"},
		{text(""), `""`}, {text("a, b"), `"a, b"`}, {text("'red"), `"'red"`}, {text("none"), `"none"`}, {text("{1}"), `"{1}"`},
		{sym("red"), "'red"}, {sym("none"), "'none"}, {sym("true"), "'true"},
		{boolean("true"), "true"}, {boolean("false"), "false"},
		{id("0"), "#0"}, {id("12"), "#12"}, {id("999999999"), "#999999999"},
		{set(""), "{}"}, {set("1"), "{1}"}, {set(`none, 1, "a, b", 'red, true, #7`), `{none, 1, "a, b", 'red, true, #7}`}, {set(`"{}"`), `{"{}"}`},
	} {
		if got := value.Show(c.v); got != c.want {
			t.Errorf("%d %q: got %q, want %q", c.v.Kind, c.v.S, got, c.want)
		}
		if v, err := value.Read(c.want); v != c.v || err != api.OK {
			t.Errorf("%q: got %d %q, %d", c.want, v.Kind, v.S, err)
		}
	}
}

// P4.1 (D1): Read, of what no right value is written.
func TestReadOfNothing(t *testing.T) {
	all := []string{
		"", " ", "n", "no", "non", "nonee", "none ", " none", "nonenone", "None", "NONE", "nil", "null", "t", "tru", "True", "truee", "true ", " true", "falsefalse", "f", "fals", "False", "truefalse",
		"red", "a", "x1", "?x", "red'", "'", "''", "''red", "'red'", "' red", "'red ", "'red\n", "'Red", "'1", "'r-d", "'" + times("a", 25),
		"#", "##1", "# 1", "#1 ", "#1#", "#01", "#-1", "#a", "#1/2", "#1000000000", "1#", "#'a", "#none",
		"\"", "\"\"\"", "\"\"\"\"", "\"a", "a\"", "\"a\"b", "\"a\"b\"", "\"a\" ", " \"a\"", "\"a\"\"", "\"\"a\"", "\"a\n\"", "\"\x1f\"", "\"\x7f\"", "\"\u00e9\"", "\"\xff\"", "\"" + times("a", 101) + "\"", "'a\"", "\"a'",
		"{", "}", "{}}", "{{}", "{{}}", "{ }", "{} ", " {}", "{1", "1}", "{1}}", "{{1}}", "{1} ", "{1}, {2}", "{1,2}", "{1, 2 }", "{ 1, 2}", "{2, 1}", "{1, 1}", "{1, }", "{, }", "{,}", "{1, {2}}", "{1, {}}", "{a}", "{\"}", "{'a, 1}", "{}{}", "{1}{2}", "(1)", "[1]",
		"-", "+1", "--1", "01", "-0", "1 ", " 1", "1 2", "1, 2", "1.5", "2/4", "3/1", "1/0", "1/", "/2", "1/-2", "1\n", times("9", 301), "1x", "x", "\x00", "none\x00", "\u0661",
		written(ofBytes(4001)), times("9", 100000), times("{", 100000), times("\"", 100000), times("n", 100000), times("'", 100000), times("#", 100000), times("t", 100000),
	}
	for _, v := range wrong() {
		if v.Kind >= api.Num && v.Kind <= api.Set {
			all = append(all, written(v))
		}
	}
	for _, s := range all {
		if _, err := read(s); err == api.OK {
			continue // written as what is not right, and as what is
		}
		if v, err := value.Read(s); v != (api.Value{}) || err != api.ErrForm {
			t.Errorf("%q: got %d %q, %d", brief(s), v.Kind, brief(v.S), err)
		}
	}
}

// P4.1 (D1): nothing may stand ahead of what is written, or behind it.
func TestReadOfMore(t *testing.T) {
	for _, v := range append(singles(), sets()...) {
		s := value.Show(v)
		for _, more := range []string{" ", "\n", "\t", "\x00", ",", ", ", "none", "\"", "'", "#", "{", "}", "1", "a", "-", "/", "\xff"} {
			checkRead(t, s+more)
			checkRead(t, more+s)
		}
		checkRead(t, s[1:])
		checkRead(t, s[:len(s)-1])
		checkRead(t, strings.ToUpper(s))
	}
}

// P4.1 (D2): Cmp, of right values in order, of all kinds: each stands ahead of all behind it.
func TestCmp(t *testing.T) {
	all := append(singles(), sets()...)
	for i, a := range all {
		for j, b := range all {
			if got := value.Cmp(a, b); got != cmp.Compare(i, j) || got != order(a, b) {
				t.Fatalf("%s and %s: got %d, want %d", brief(written(a)), brief(written(b)), got, cmp.Compare(i, j))
			}
		}
	}
}

// P4.1 (D2): unlike kinds, by the less one, whether they are right or not.
func TestCmpOfKinds(t *testing.T) {
	kinds := []int{-1 << 63, -1 << 31, -2, -1, 0, 1, 2, 3, 4, 5, 6, 7, 8, 1 << 31, 1<<63 - 1}
	for i, a := range kinds {
		for j, b := range kinds {
			for _, s := range []string{"", "0", "1", "true", "z", "\xff"} {
				for _, u := range []string{"", "0", "1", "true", "z", "\xff"} {
					want := cmp.Compare(i, j)
					if i == j && s != u {
						want = cmp.Compare(s, u)
					}
					if got := value.Cmp(api.Value{Kind: a, S: s}, api.Value{Kind: b, S: u}); got != want {
						t.Fatalf("%d %q and %d %q: got %d, want %d", a, s, b, u, got, want)
					}
				}
			}
		}
	}
}

// P4.1 (D2): two Nums, or two Ids, of which one is not right, or both are not, go by bytes.
func TestCmpOfWrong(t *testing.T) {
	for _, c := range []struct {
		a, b api.Value
		want int
	}{
		{num("10"), num("9"), 1}, {num("10"), num("09"), 1}, {num("010"), num("9"), -1}, {num("10"), num("9x"), -1}, {num("10x"), num("9"), -1}, {num("-2"), num("-10"), 1}, {num("-2"), num("-010"), 1}, {num("-02"), num("-1"), -1},
		{num("2/4"), num("1/2"), 1}, {num("2/4"), num("1/3"), 1}, {num("2/4"), num("3"), -1}, {num("1/2"), num("1/3"), 1}, {num("1/10"), num("2/20"), -1}, {num(""), num("-1"), -1}, {num("-0"), num("0"), -1}, {num("-0"), num("-1"), -1},
		{num(times("9", 301)), num("10"), 1}, {num("1" + times("0", 300)), num("9"), -1}, {num("1" + times("0", 299)), num("9"), 1}, {num("-" + times("9", 299)), num("-1"), -1}, {num("-" + times("9", 300)), num("-1"), 1}, {num("1" + times("0", 300)), num("2" + times("0", 299)), -1}, {num("1" + times("0", 400)), num("2" + times("0", 350)), -1},
		{id("10"), id("9"), 1}, {id("10"), id("09"), 1}, {id("010"), id("9"), -1}, {id("10"), id("9a"), -1}, {id("1000000000"), id("9"), -1}, {id("100000000"), id("9"), 1}, {id("1000000000"), id("2000000000"), -1}, {id("10000000000"), id("2000000000"), -1}, {id("-1"), id("0"), -1}, {id("-1"), id("-2"), -1}, {id("1/2"), id("1/3"), -1}, {id(""), id("0"), -1},
		{text("10"), text("9"), -1}, {text("a"), text("A"), 1}, {text("\xff"), text("z"), 1}, {text("\""), text(" "), 1}, {sym("10"), sym("9"), -1}, {sym("B"), sym("a"), -1}, {boolean("yes"), boolean("true"), 1}, {boolean(""), boolean("false"), -1}, {api.Value{S: "2"}, api.Value{S: "10"}, 1}, {api.Value{S: "a"}, api.Value{}, 1},
		{set("10"), set("9"), -1}, {set("2, 1"), set("10"), 1}, {set(""), set("1"), -1}, {set("1"), set("1, 2"), -1}, {set("{"), set("1"), 1},
	} {
		if got := value.Cmp(c.a, c.b); got != c.want {
			t.Errorf("%d %q and %q: got %d, want %d", c.a.Kind, brief(c.a.S), brief(c.b.S), got, c.want)
		}
		if got := value.Cmp(c.b, c.a); got != -c.want {
			t.Errorf("%d %q and %q: got %d, want %d", c.a.Kind, brief(c.b.S), brief(c.a.S), got, -c.want)
		}
	}
}

// P4.1 (D3): SetOf, of values in any order, some of them more than once, some that are not right, some that are sets.
func TestSetOf(t *testing.T) {
	for _, c := range []struct {
		l    []api.Value
		want string
	}{
		{nil, ""}, {[]api.Value{}, ""}, {[]api.Value{{}}, "none"}, {[]api.Value{num("1")}, "1"}, {[]api.Value{text("")}, `""`},
		{[]api.Value{num("10"), num("9"), num("10"), num("-1/2"), num("1/3")}, "-1/2, 1/3, 9, 10"},
		{[]api.Value{id("10"), id("9"), sym("b"), sym("a"), boolean("true"), text("z"), num("0"), {}}, `none, 0, "z", 'a, 'b, true, #9, #10`},
		{[]api.Value{num("2/4"), num("x"), sym("A"), sym(""), text("\""), boolean("no"), id("01"), {Kind: 7, S: "1"}, {Kind: -1}, {S: "none"}}, ""},
		{[]api.Value{num("2/4"), num("2"), sym("A"), num("2")}, "2"},
		{[]api.Value{set(""), set("1"), num("3"), set("1, 2"), set("2, 1")}, "3"},
		{[]api.Value{text("a, b"), text("a"), text("b"), text(", "), text("}, {"), text("'a"), text("\"")}, `"'a", ", ", "a", "a, b", "b", "}, {"`},
		{[]api.Value{text("1"), num("1"), sym("a"), text("a"), text("a")}, `1, "1", "a", 'a`},
	} {
		if got := value.SetOf(c.l); got != set(c.want) {
			t.Errorf("%v: got %d %q, want %q", c.l, got.Kind, got.S, c.want)
		}
	}
	r := newValues(2)
	others := append(sets(), wrong()...)
	for range 1500 {
		l := append(r.list(20), others[r.Intn(len(others))], others[r.Intn(len(others))])
		r.Shuffle(len(l), func(i, j int) { l[i], l[j] = l[j], l[i] })
		if got, want := value.SetOf(l), setOf(l); got != want {
			t.Fatalf("%v: got %q, want %q", l, got.S, want.S)
		}
	}
}

// P4.1 (D3): a set of 4000 bytes is not too long; one of more is, and SetOf answers a zero value.
func TestSetOfMost(t *testing.T) {
	for n := 3990; n <= 4010; n++ {
		want := ofBytes(n)
		l, _ := membersOf(want.S)
		slices.Reverse(l)
		l = append(l, l...)
		l = append(l, text(times("x", 101)), set(""))
		if n > 4000 {
			want = api.Value{}
		}
		if got := value.SetOf(l); got != want || got != setOf(l) {
			t.Errorf("%d bytes: got %d %q", n, got.Kind, brief(got.S))
		}
	}
	texts := row(0, 39)
	for i, v := range texts {
		texts[i] = text(v.S + times("-", 100-len(v.S)))
	}
	if got := value.SetOf(texts[:38]); len(got.S) != 38*104-2 || got != setOf(texts[:38]) {
		t.Errorf("38 long texts: got %d bytes", len(got.S))
	}
	if got := value.SetOf(texts); got != (api.Value{}) {
		t.Errorf("39 long texts: got %d bytes", len(got.S))
	}
}

// P4.1 (D3), P1: of very many values.
func TestSetOfVeryMany(t *testing.T) {
	if got := value.SetOf(row(0, 300000)); got != (api.Value{}) {
		t.Errorf("all unlike: got %d %q", got.Kind, brief(got.S))
	}
	same := make([]api.Value, 300000)
	for i := range same {
		same[i] = num("12345678901234567890/7")
		if i%2 == 0 {
			same[i] = num("14/2")
		}
	}
	if got := value.SetOf(same); got != set("12345678901234567890/7") {
		t.Errorf("all alike: got %d %q", got.Kind, brief(got.S))
	}
}

// P4.1 (D3): Members, of right sets.
func TestMembers(t *testing.T) {
	for _, c := range []struct {
		s    string
		want []api.Value
	}{
		{"", nil}, {"1", []api.Value{num("1")}}, {"none", []api.Value{{}}}, {`""`, []api.Value{text("")}},
		{`none, -1/2, "", ", ", "a, b", "{1, 2}", 'red, false, #7`, []api.Value{{}, num("-1/2"), text(""), text(", "), text("a, b"), text("{1, 2}"), sym("red"), boolean("false"), id("7")}},
	} {
		if l, is := value.Members(set(c.s)); !is || !slices.Equal(l, c.want) {
			t.Errorf("%q: got %v, %v", c.s, l, is)
		}
	}
	for _, v := range sets() {
		want, _ := membersOf(v.S)
		if l, is := value.Members(v); !is || !slices.Equal(l, want) {
			t.Errorf("%q: got %v, %v", brief(v.S), l, is)
		}
	}
}

// P4.1 (D3): Members, of what is no set, or none that is right.
func TestMembersOfNone(t *testing.T) {
	for _, v := range append(singles(), wrong()...) {
		if l, is := value.Members(v); is || len(l) != 0 {
			t.Errorf("%d %q: got %d, %v", v.Kind, brief(v.S), len(l), is)
		}
	}
}
