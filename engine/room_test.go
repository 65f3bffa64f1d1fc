package engine_test

import (
	"cmp"
	"fmt"
	"reflect"
	"runtime"
	"slices"
	"strings"
	"testing"
)

// roomy is a thing of the same, in lists of its own, that have spare room, in which something stands.
func roomy[T any](thing T) T {
	v := reflect.New(reflect.TypeOf(thing)).Elem()
	copyIn(v, reflect.ValueOf(thing), 3)
	return v.Interface().(T)
}

// copied is a thing of the same, in lists of its own.
func copied[T any](thing T) T {
	v := reflect.New(reflect.TypeOf(thing)).Elem()
	copyIn(v, reflect.ValueOf(thing), 0)
	return v.Interface().(T)
}

func copyIn(to, from reflect.Value, spare int) {
	switch from.Kind() {
	case reflect.Struct:
		for i := range from.NumField() {
			copyIn(to.Field(i), from.Field(i), spare)
		}
	case reflect.Slice:
		if from.IsNil() && spare == 0 {
			return
		}
		many := from.Len() + spare
		room := reflect.MakeSlice(from.Type(), many, many)
		for i := range from.Len() {
			copyIn(room.Index(i), from.Index(i), spare)
		}
		for i := from.Len(); i < many; i++ {
			spoilIn(room.Index(i))
		}
		to.Set(room.Slice(0, from.Len()))
	default:
		to.Set(from)
	}
}

// spoil puts something into all of a thing's texts and numbers, in its lists too, and into their spare room.
func spoil[T any](thing *T) { spoilIn(reflect.ValueOf(thing).Elem()) }

func spoilIn(v reflect.Value) {
	switch v.Kind() {
	case reflect.Struct:
		for i := range v.NumField() {
			spoilIn(v.Field(i))
		}
	case reflect.Slice:
		all := v.Slice(0, v.Cap())
		for i := range all.Len() {
			spoilIn(all.Index(i))
		}
	case reflect.String:
		v.SetString("spoilt")
	case reflect.Int:
		v.SetInt(-77)
	case reflect.Bool:
		v.SetBool(!v.Bool())
	}
}

// whole is all that a thing's lists have, with their spare room, as a text.
func whole(thing any) string {
	var s strings.Builder
	writeWhole(&s, reflect.ValueOf(thing))
	return s.String()
}

func writeWhole(s *strings.Builder, v reflect.Value) {
	switch v.Kind() {
	case reflect.Struct:
		for i := range v.NumField() {
			writeWhole(s, v.Field(i))
		}
	case reflect.Slice:
		fmt.Fprintf(s, "[%d of %d:", v.Len(), v.Cap())
		all := v.Slice(0, v.Cap())
		for i := range all.Len() {
			writeWhole(s, all.Index(i))
		}
		s.WriteString("]")
	default:
		fmt.Fprintf(s, "%q;", fmt.Sprint(v.Interface()))
	}
}

// lists is all lists of a thing, those in others too.
func lists(thing any) []any {
	var l []any
	gather(&l, reflect.ValueOf(thing))
	return l
}

func gather(l *[]any, v reflect.Value) {
	switch v.Kind() {
	case reflect.Struct:
		for i := range v.NumField() {
			gather(l, v.Field(i))
		}
	case reflect.Slice:
		*l = append(*l, v.Interface())
		for i := range v.Len() {
			gather(l, v.Index(i))
		}
	}
}

// span is where a list stands, with its spare room.
type span struct{ from, to uintptr }

// apart fails, if two of those lists share memory. It takes all of them at once, as memory that no one has any more may be had again.
func apart(t *testing.T, lists []any) {
	t.Helper()
	var l []span
	for _, one := range lists {
		if v := reflect.ValueOf(one); v.Cap() > 0 {
			l = append(l, span{v.Pointer(), v.Pointer() + uintptr(v.Cap())*v.Type().Elem().Size()})
		}
	}
	slices.SortFunc(l, func(x, y span) int { return cmp.Compare(x.from, y.from) })
	for i := 1; i < len(l); i++ {
		if l[i].from < l[i-1].to {
			t.Fatalf("two lists share memory: %x and %x", l[i-1], l[i])
		}
	}
	runtime.KeepAlive(lists)
}
