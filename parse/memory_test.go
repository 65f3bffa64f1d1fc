package parse_test

import (
	"cmp"
	"reflect"
	"slices"
	"strings"
	"sync"
	"testing"

	"tribunal/api"
	"tribunal/parse"
)

// stretch is where a list stands in memory, with its spare room.
type stretch struct{ from, to uintptr }

// stretches is where all lists in a thing stand.
func stretches(v reflect.Value) []stretch {
	var l []stretch
	switch v.Kind() {
	case reflect.Struct:
		for i := range v.NumField() {
			l = append(l, stretches(v.Field(i))...)
		}
	case reflect.Slice:
		if size := uintptr(v.Cap()) * v.Type().Elem().Size(); size > 0 {
			l = append(l, stretch{v.Pointer(), v.Pointer() + size})
		}
		for i := range v.Len() {
			l = append(l, stretches(v.Index(i))...)
		}
	}
	return l
}

// spoil changes all that is in a thing's lists, and their spare room.
func spoil(v reflect.Value) {
	switch v.Kind() {
	case reflect.Struct:
		for i := range v.NumField() {
			spoil(v.Field(i))
		}
	case reflect.Slice:
		roomy := v.Slice(0, v.Cap())
		for i := range roomy.Len() {
			spoil(roomy.Index(i))
		}
	case reflect.String:
		v.SetString(v.String() + "spoilt")
	case reflect.Int:
		v.SetInt(v.Int() + 77)
	}
}

// P3: no two lists of answers share memory, nor their spare room.
func TestListsApart(t *testing.T) {
	m := newMaker(10)
	for range 300 {
		s := written(m.program())
		p, _, _ := parse.Parse(s)
		again, _, _ := parse.Parse(s)
		l := stretches(reflect.ValueOf([]api.Program{p, again}))
		slices.SortFunc(l, func(a, b stretch) int { return cmp.Compare(a.from, b.from) })
		for i := 1; i < len(l); i++ {
			if l[i].from < l[i-1].to {
				t.Fatalf("%s: two lists share memory", brief(s))
			}
		}
	}
}

// P3: what Parse told, changed by the one who asked, changes nothing that is told behind that, or was told ahead of it.
func TestSpoilt(t *testing.T) {
	m := newMaker(11)
	texts := samples()
	for range 300 {
		texts = append(texts, m.text())
	}
	for _, s := range texts {
		kept, _, _ := check(t, s)
		p, _, _ := check(t, s)
		spoil(reflect.ValueOf(&p).Elem())
		check(t, s)
		if want, _, _ := told(s); !same(kept, want) {
			t.Fatalf("%s: got %s, and behind that %s", brief(s), brief(want), brief(kept))
		}
	}
}

// P3: each call's answer hangs on its text alone, whatever was called ahead of it, wrong calls too, and beside it.
func TestSameAgain(t *testing.T) {
	m := newMaker(12)
	for range 1000 {
		s, other := m.text(), m.text()
		check(t, s)
		parse.Parse(other)
		parse.Parse("(rule a 0 ((" + other)
		parse.Parse(times("(", 8001))
		parse.Parse(`"` + other)
		check(t, s)
	}
	var all sync.WaitGroup
	for _, s := range samples() {
		all.Go(func() {
			want, _, _ := told(s)
			for range 50 {
				parse.Parse(strings.ToUpper(s))
				if p, at, err := parse.Parse(s); !same(p, want) || at != 0 || err != api.OK {
					t.Errorf("%s: got %s, %d, %d", s, brief(p), at, err)
				}
			}
		})
	}
	all.Wait()
}

// P1: any text ends, without a panic, and is as another one tells it; P11.3: as it is with blanks otherwise.
func FuzzParse(f *testing.F) {
	m := newMaker(13)
	for _, s := range samples() {
		f.Add(s)
	}
	for range 200 {
		f.Add(m.text())
	}
	f.Fuzz(func(t *testing.T, s string) {
		_, at, err := check(t, s)
		if err == api.ErrForm && len(s)+2 <= api.MaxSource {
			checkPlace(t, s[:at]+" \n"+s[at:], at+2, api.ErrForm)
		}
	})
}
