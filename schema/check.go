package schema

import (
	"slices"

	"tribunal/api"
	"tribunal/value"
)

// check is what has to hold, and the error that tells it does not.
type check struct {
	err   api.Errno
	holds func() bool
}

// first is the error of the first check that does not hold; those behind it are not asked, as they may lean on it.
func first(l ...check) api.Errno {
	for _, c := range l {
		if !c.holds() {
			return c.err
		}
	}
	return api.OK
}

// right tells whether a template may be so, whatever others there are.
func right(t api.Template) bool {
	if !value.Name(t.Name) || keyword(t.Name) || constant(t.Name) || len(t.Slots) > api.MaxSlots {
		return false
	}
	for i, f := range t.Slots {
		if !rightSlot(f) || place(t.Slots[:i], f.Name) >= 0 {
			return false
		}
	}
	return true
}

// rightSlot tells whether a slot may be so, whatever others there are.
func rightSlot(f api.Field) bool {
	return value.Name(f.Name) && !constant(f.Name) && f.Type >= api.Num && f.Type <= api.Bool
}

// place is that of the slot of a name; -1: there is none.
func place(l []api.Field, name string) int {
	return slices.IndexFunc(l, func(f api.Field) bool { return f.Name == name })
}

// keyword tells whether a word means something else where a template's name may stand.
func keyword(word string) bool {
	switch word {
	case "as", "not", "if", "let":
		return true
	}
	return false
}

// constant tells whether a word is how a value is written.
func constant(word string) bool {
	switch word {
	case "true", "false", "none":
		return true
	}
	return false
}

// suit tells whether values, as many as slots, are right, and each of its slot's type.
func suit(vals []api.Value, slots []api.Field) bool {
	for i, v := range vals {
		if v.Kind != slots[i].Type || !value.Right(v) {
			return false
		}
	}
	return true
}
