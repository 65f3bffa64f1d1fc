package value

import (
	"strings"

	"tribunal/api"
)

// Show is how v is written; nothing, if it is not right.
func Show(v api.Value) string {
	if !Right(v) {
		return ""
	}
	return written(v)
}

// written is how v, which is right, is written.
func written(v api.Value) string {
	ahead, behind := marks(v.Kind)
	return ahead + v.S + behind
}

// marks is what a value of a kind is written between.
func marks(kind int) (string, string) {
	switch kind {
	case api.None:
		return "none", ""
	case api.Text:
		return string(quote), string(quote)
	case api.Sym:
		return "'", ""
	case api.Id:
		return "#", ""
	case api.Set:
		return "{", "}"
	}
	return "", ""
}

// Read is the right value that is written s; ErrForm: there is none.
func Read(s string) (api.Value, api.Errno) { return readAs(s, Right) }

// readAs is the value that is written s, and is as it has to be; ErrForm: there is none.
func readAs(s string, right func(api.Value) bool) (api.Value, api.Errno) {
	kind := kindOf(s)
	ahead, behind := marks(kind)
	v := api.Value{Kind: kind, S: strings.TrimSuffix(strings.TrimPrefix(s, ahead), behind)}
	// A mark that s lacks was not taken away, and would be written.
	if !right(v) || written(v) != s {
		return api.Value{}, api.ErrForm
	}
	return v, api.OK
}

// kindOf is the one kind of which s can be written.
func kindOf(s string) int {
	if s == "" {
		return api.Num
	}
	switch s[0] {
	case 'n':
		return api.None
	case quote:
		return api.Text
	case '\'':
		return api.Sym
	case 't', 'f':
		return api.Bool
	case '#':
		return api.Id
	case '{':
		return api.Set
	}
	return api.Num
}
