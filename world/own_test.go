package world_test

import (
	"cmp"
	"fmt"
	"reflect"
	"runtime"
	"slices"
	"strings"
	"sync"
	"testing"
	"time"

	"tribunal/api"
	"tribunal/engine"
	"tribunal/parse"
	"tribunal/world"
)

// spoil puts something into facts' lists, and into their spare room.
func spoil(l []api.Fact) {
	for _, f := range l[:cap(l)] {
		for i := range f.Vals[:cap(f.Vals)] {
			f.Vals[:cap(f.Vals)][i] = api.Value{Kind: api.Text, S: "spoilt"}
		}
	}
	for i := range l[:cap(l)] {
		l[:cap(l)][i] = api.Fact{Id: -77, Tmpl: "spoilt", Vals: []api.Value{{Kind: 9}}}
	}
}

// copied is facts, in lists of their own.
func copied(l []api.Fact) []api.Fact {
	l = slices.Clone(l)
	for i := range l {
		l[i].Vals = slices.Clone(l[i].Vals)
	}
	return l
}

// P3: what Facts tells is the asker's own: changed, and its spare room, nothing is told otherwise behind that; nor is it changed by what comes behind it.
func TestFactsAreOnesOwn(t *testing.T) {
	m := newMaker(20)
	for range 80 {
		b := of(t, m.program(t))
		var kept, were [][]api.Fact
		for range 20 {
			b.do(m.step(b))
			l := b.w.Facts()
			kept, were = append(kept, l), append(were, copied(l))
			spoil(b.w.Facts())
			b.check()
			b.state()
		}
		for i := range kept {
			if !alikeFacts(kept[i], were[i]) {
				t.Fatalf("%s: was %s, is %s", brief(b.text), brief(were[i]), brief(kept[i]))
			}
		}
		if !alikeFacts(b.again().Facts(), b.w.Facts()) {
			t.Fatalf("%s: other facts", brief(b.text))
		}
	}
}

// span is where a list stands, with its spare room.
type span struct{ from, to uintptr }

func spanOf(l any) span {
	v := reflect.ValueOf(l)
	return span{v.Pointer(), v.Pointer() + uintptr(v.Cap())*v.Type().Elem().Size()}
}

// P3: no list of an answer shares memory with another answer, or with another list of the same one.
func TestApart(t *testing.T) {
	m, all, spans := newMaker(21), [][]api.Fact{}, []span{}
	for range 60 {
		b := of(t, m.program(t))
		for range 15 {
			b.do(m.step(b))
			for range 2 {
				l := b.w.Facts()
				all, spans = append(all, l), append(spans, spanOf(l))
				for _, f := range l {
					spans = append(spans, spanOf(f.Vals))
				}
			}
		}
	}
	// Lists of no room have no memory to share.
	spans = slices.DeleteFunc(spans, func(s span) bool { return s.from == s.to })
	slices.SortFunc(spans, func(x, y span) int { return cmp.Compare(x.from, y.from) })
	for i := 1; i < len(spans); i++ {
		if spans[i].from < spans[i-1].to {
			t.Fatal("two lists share memory")
		}
	}
	if len(spans) < 5000 {
		t.Errorf("just %d", len(spans))
	}
	runtime.KeepAlive(all)
}

// P3: two worlds of one text know nothing of each other, nor do those of other texts.
func TestWorldsAlone(t *testing.T) {
	m := newMaker(22)
	for range 60 {
		text := m.program(t)
		l := []*both{of(t, text), of(t, text), of(t, m.program(t))}
		for range 30 {
			b := one(m, l...)
			b.do(m.step(b))
			for _, other := range l {
				other.check()
			}
		}
		for _, b := range l {
			b.state()
			if got, want := b.again().Do("( agenda )"), b.do("( agenda )"); got != want {
				t.Fatalf("%s: got %s, want %s", brief(text), brief(got), brief(want))
			}
		}
		if w := worldOf(t, text); len(w.Facts()) > 0 || w.Do("( facts )") != "end\n" {
			t.Fatal("a new world has facts")
		}
	}
}

// P3: the same lines tell the same, each time, on each new world.
func TestSameAgain(t *testing.T) {
	m := newMaker(23)
	for range 40 {
		b := of(t, m.program(t))
		script := m.script(t, b, 25)
		want := worldOf(t, b.text).Script(script)
		for range 6 {
			if got := worldOf(t, b.text).Script(script); got != want {
				t.Fatalf("%s, %s: got %s, want %s", brief(b.text), brief(script), brief(got), brief(want))
			}
		}
	}
}

// P3: worlds beside one another, each in a goroutine of its own, tell what each tells alone.
func TestBeside(t *testing.T) {
	m := newMaker(24)
	var all sync.WaitGroup
	for range 16 {
		b := of(t, m.program(t))
		script := m.script(t, b, 40)
		want := worldOf(t, b.text).Script(script)
		for range 2 {
			all.Go(func() {
				w, err, _ := world.New(b.text)
				if err != api.OK {
					t.Error(err)
				} else if got := w.Script(script); got != want {
					t.Errorf("%s: got %s, want %s", brief(script), brief(got), brief(want))
				}
			})
		}
	}
	all.Wait()
}

// heap is how many bytes are in use.
func heap() int64 {
	runtime.GC()
	var m runtime.MemStats
	runtime.ReadMemStats(&m)
	return int64(m.HeapAlloc)
}

// P3: a text that is handed in is not kept, though a program, facts, and what is to be done, are read from it: many long ones take no room behind that.
func TestTextsAreNotKept(t *testing.T) {
	const rules = "(rule r 0 ((as ?f (w (n ?n) (t ?t) (s ?s)))) ((print ?t) (modify ?f (s 'b))))"
	w := worldOf(t, templates+rules)
	var worlds []*world.World
	w.Script("( assert w 1 \"a\" 'a true )\n( run 1 )\n( query ( ( w ) ) )")
	was := heap()
	for i := range 100 {
		blank := times("\n \n", 100000+i)
		script := fmt.Sprintf("%s( assert w %d \"text %d\" 'a true )\n( assert p %d 1/2 )%s\n( run 1 )", blank, i, i, i, blank)
		// Each round takes four numbers: of two facts, of one that is modified by a rule, and of one more.
		next := 4*i + 3
		want := fmt.Sprintf("fact %d\nfact %d\nfired r f=#%d n=%d s='a t=\"text %d\" #%d > \"text %d\" \nfuel\nfact %d\n", next, next+1, next, i, i, next, i, next+3)
		script += blank + fmt.Sprintf("( modify %d ( a 7%d ) )", next+1, i)
		if got := w.Script(script); got != want {
			t.Fatalf("%d: got %s, want %s", i, brief(got), brief(want))
		}
		source := blank + templates + rules + blank
		one, err, _ := world.New(source[len(blank) : len(source)-len(blank)])
		if err != api.OK {
			t.Fatalf("error %d", err)
		}
		worlds = append(worlds, one)
	}
	if more := heap() - was; more > 6000000 {
		t.Errorf("%d bytes more", more)
	}
	runtime.KeepAlive(worlds)
	runtime.KeepAlive(w)
}

// P3: what was told, and done, is not kept: the heap does not grow by lines.
func TestNothingKept(t *testing.T) {
	w := worldOf(t, templates+"(rule r 0 ((as ?f (w (n ?n) (t ?t)))) ((print ?t) (modify ?f (n (+ ?n 1))))) (rule s -1 ((let ?l set ?t () ((w (t ?t))))) ((print ?l)))")
	next := 1
	rounds := func(many int) {
		for i := range many {
			got := w.Script(fmt.Sprintf("( assert w 0 \"%099d\" 'a true )\n( assert w 0 \"%0101d\" 'a true )\n( query ( ( w ( t ?t ) ) ) )\n( run 2 )\n( facts )\n( agenda )\n( retract %d )\nwrong %d", i, i, next+2, i))
			if !strings.HasPrefix(got, fmt.Sprintf("fact %d\nerror 12\n", next)) || !strings.HasSuffix(got, "ok\nerror 12\n") {
				t.Fatalf("got %s", brief(got))
			}
			next += 3
		}
	}
	rounds(300)
	was := heap()
	rounds(4000)
	if more := heap() - was; more > 1000000 {
		t.Errorf("%d bytes more", more)
	}
	runtime.KeepAlive(w)
}

// P1, P22.1: any bytes, of any length, end, and are told as wrong.
func TestAnyBytes(t *testing.T) {
	m, begin := newMaker(25), time.Now()
	b := ofRules(t, broad)
	for range 4000 {
		s := make([]byte, m.Intn(40))
		for i := range s {
			s[i] = byte(m.Intn(256))
		}
		b.do(string(s))
		world.New(string(s))
	}
	for range 3000 {
		s := m.some(12, "(", ")", "( ", " )", "assert ", "p ", "retract ", "modify ", "run ", "query ", "facts ", "agenda ", "1 ", "2 ", "'a ", "\"a\" ", "?x ", "if ", "let ", "not ", "as ", "< ", "count ", "\n", "#", "\"")
		b.do(s)
		world.New(s)
		if l := b.w.Facts(); len(l) > 5 {
			b.do(fmt.Sprintf("( retract %d )", l[0].Id))
		}
	}
	for i := range 256 {
		c := string([]byte{byte(i)})
		for _, s := range []string{c, c + "( facts )", "( facts )" + c, "( facts" + c + ")", "(" + c + "facts )", "( run " + c + " )", "( run 1" + c + ")", "( assert " + c + " )", "( assert p 1" + c + "2 )", "( assert w 1 \"" + c + "\" 'a true )", "( query (" + c + ") )"} {
			b.do(s)
		}
		for _, f := range b.w.Facts() {
			b.do(fmt.Sprintf("( retract %d )", f.Id))
		}
	}
	for _, s := range []string{times("(", 1000000), times("( facts )", 1000000), times("\x00", 1000000), times("\"", 8000), times("( query ", 1000), times("'", 8000), times("9", 8000), times("a", 8000), times("1/", 4000), times("-", 8000)} {
		if got := b.w.Do(s); got != "error 12\n" {
			t.Errorf("%s: got %s", brief(s), brief(got))
		}
		b.w.Script(s)
		world.New(s)
	}
	if took := time.Since(begin); took > time.Minute {
		t.Errorf("%v", took)
	}
}

// slow tells whether a program may take long to be done, as rules of many conditions do, or a line, as runs of much fuel do.
func slow(p api.Program, script string) bool {
	for _, r := range p.Rules {
		if len(r.Conds) > 4 {
			return true
		}
	}
	for _, line := range strings.Split(script, "\n") {
		if l, is := words(line); is && len(l) == 4 && l[1].text == "run" && len(l[2].text) > 2 || len(l) > 40 {
			return true
		}
	}
	return len(script) > 1500
}

// P1, P22.1 to P22.3: any text, and any script, end, without a panic, and are as another one tells them.
func FuzzScript(f *testing.F) {
	f.Add("(template p (a num)) (rule r 0 ((as ?f (p (a ?x))) (not (p (a 2)))) ((modify ?f (a (+ ?x 1))) (print ?x)))", "( assert p 0 )\n( run 9 )\n( facts )\n( agenda )", 5)
	f.Add(templates+broad, "( assert p 1 2 )\r\n( assert w 1 \"a) (b\" 'a true )\n\n( run 99 )\n( query ( ( p ( a ?x ) ) ( if < ?x 2 ) ) )\n( modify 1 ( a 3 ) )", 30)
	f.Add("(rule r 0 () ((print 1) (print (/ 1 0))))", "( run 1 )\n(query()()) (rule r 0 ())\n( retract 1 )\n \t\r\n\v", 3)
	f.Add("(template not)", "( query ( ( let ?n count ?x ( ) ( ( e ) ) ) ) )", 0)
	f.Add("", "( facts", -1)
	f.Fuzz(func(t *testing.T, text, script string, cut int) {
		p, at, err := parse.Parse(text)
		if err == api.OK {
			_, err, at = engine.New(p)
		}
		if w, got, place := world.New(text); (w != nil) != (err == api.OK) || got != err || place != at {
			t.Fatalf("%q: got %t, %d, %d, want %d, %d", text, w != nil, got, place, err, at)
		}
		if err != api.OK || slow(p, script) {
			text = templates + broad
		}
		if slow(api.Program{}, script) {
			return
		}
		b, told := of(t, text), ""
		for _, line := range strings.Split(script, "\n") {
			if strings.Trim(line, " \t\r") == "" {
				continue
			}
			was := b.state()
			one := b.do(line)
			if told += one; stillTold(line, one) && b.state() != was {
				t.Fatalf("%q: changed", line)
			}
		}
		w := worldOf(t, text)
		if got := w.Script(script); got != told || !alikeFacts(w.Facts(), b.w.Facts()) {
			t.Fatalf("%q: got %q, want %q", script, got, told)
		}
		if cut >= 0 && cut < len(script) && script[cut] == '\n' {
			inParts(t, text, script[:cut], script[cut+1:])
		}
	})
}
