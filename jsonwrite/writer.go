package jsonwrite

import (
	"strconv"
	"strings"

	"feedvault/api"
	"feedvault/jsonstring"
)

// writer collects the canonical text of a valid value.
type writer struct {
	strings.Builder
}

// value writes a value.
func (w *writer) value(v api.Value) {
	switch v.Kind {
	case api.Null:
		w.WriteString("null")
	case api.Bool:
		w.WriteString(strconv.FormatBool(v.B))
	case api.Int:
		w.WriteString(strconv.FormatInt(v.N, 10))
	case api.String:
		w.str(v.S)
	case api.Array:
		w.WriteByte('[')
		join(w, v.Items, w.value)
		w.WriteByte(']')
	case api.Object:
		w.WriteByte('{')
		join(w, v.Members, w.member)
		w.WriteByte('}')
	}
}

// member writes a member of an object.
func (w *writer) member(m api.Member) {
	w.str(m.Key)
	w.WriteByte(':')
	w.value(m.Value)
}

// str writes a string or a key. In a valid value it is valid UTF-8, for which Quote has no error.
func (w *writer) str(s string) {
	quoted, _ := jsonstring.Quote(s)
	w.WriteString(quoted)
}

// join writes the parts of an array or object, with commas between them.
func join[T any](w *writer, parts []T, write func(T)) {
	for i, p := range parts {
		if i > 0 {
			w.WriteByte(',')
		}
		write(p)
	}
}
