package schema_test

import (
	"math"
	"slices"
	"strconv"
	"testing"

	"tribunal/api"
	"tribunal/schema"
)

// P7.2 (as given): List is what New was given; each of these is found, each slot at its place, of its type.
func TestAsGiven(t *testing.T) {
	r := newValues(3)
	for n := range 17 {
		for range 25 {
			l := r.templates(n)
			s := made(t, l...)
			if got := s.List(); !alike(got, l) {
				t.Fatalf("List: got %s, want %s", told(got), told(l))
			}
			for _, one := range l {
				if got, is := s.Find(one.Name); !is || !alikeOne(got, one) {
					t.Fatalf("Find of %s: got %s, %v", one.Name, told([]api.Template{got}), is)
				}
				for i, f := range one.Slots {
					if at, is := s.Slot(one.Name, f.Name); at != i || !is || s.Type(one.Name, f.Name) != f.Type {
						t.Fatalf("slot %s of %s: got %d, %v, type %d", f.Name, one.Name, at, is, s.Type(one.Name, f.Name))
					}
				}
			}
		}
	}
}

// P7.2: what is told of each template does not hang on which others there are, nor on their order.
func TestWhateverOthers(t *testing.T) {
	r := newValues(4)
	for range 100 {
		l := r.templates(8)
		alone := made(t, l[0])
		r.Shuffle(len(l), func(i, j int) { l[i], l[j] = l[j], l[i] })
		s := made(t, l...)
		one := alone.List()[0]
		if got, is := s.Find(one.Name); !is || !alikeOne(got, one) {
			t.Fatalf("Find of %s: got %s, %v", one.Name, told([]api.Template{got}), is)
		}
		for i := range 26 {
			checkSlot(t, s, alone.List(), one.Name, string(rune('a'+i)))
		}
	}
}

// P7.2: what List told makes the same schema again.
func TestThereAndBack(t *testing.T) {
	r := newValues(5)
	for range 100 {
		l := r.templates(r.Intn(17))
		checkSchema(t, made(t, made(t, l...).List()...), l)
	}
}

// P7.1 (G1): templates made wrong in one place, or in several, held against a second telling.
func TestSpoiled(t *testing.T) {
	r := newValues(6)
	seen := map[api.Errno]int{}
	for range 4000 {
		l := r.templates(1 + r.Intn(17))
		for range r.Intn(4) {
			r.spoil(l)
		}
		want, place := model(l).fault()
		seen[want]++
		s, err, at := schema.New(l)
		if err != want || at != place || (s == nil) != (err != api.OK) {
			t.Fatalf("New of %s: got %d, %d, want %d, %d", told(l), err, at, want, place)
		}
	}
	for _, err := range []api.Errno{api.OK, api.ErrTooMany, api.ErrForm, api.ErrThere} {
		if seen[err] < 30 {
			t.Errorf("error %d was met %d times", err, seen[err])
		}
	}
}

// spoil makes one of l wrong, or another one than it was.
func (r values) spoil(l []api.Template) {
	t := &l[r.Intn(len(l))]
	t.Slots = slices.Clone(t.Slots)
	words := slices.Concat(names(), noNames(), conditions(), constants())
	switch r.Intn(6) {
	case 0, 1:
		t.Name = l[r.Intn(len(l))].Name
	case 2:
		t.Name = words[r.Intn(len(words))]
	case 3:
		t.Slots = append(t.Slots, api.Field{Name: "y" + strconv.Itoa(r.Intn(3)), Type: api.Num})
	default:
		if len(t.Slots) == 0 {
			return
		}
		f := &t.Slots[r.Intn(len(t.Slots))]
		switch r.Intn(3) {
		case 0:
			f.Name = words[r.Intn(len(words))]
		case 1:
			f.Name = t.Slots[r.Intn(len(t.Slots))].Name
		default:
			f.Type = []int{math.MinInt, -1, 0, 1, 2, 3, 4, 5, 6, 7, math.MaxInt}[r.Intn(11)]
		}
	}
}
