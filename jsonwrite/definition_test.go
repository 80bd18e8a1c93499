package jsonwrite_test

import (
	"fmt"
	"math/big"
	"slices"
	"strings"

	"feedvault/api"
)

// used are the letters of the fields that each kind uses.
var used = []string{"", "B", "N", "S", "I", "M"}

// fields returns the letters of the fields of a value that are neither zero nor empty.
func fields(v api.Value) string {
	letters := ""
	for _, f := range []struct {
		letter string
		set    bool
	}{{"B", v.B}, {"N", v.N != 0}, {"S", v.S != ""}, {"I", len(v.Items) > 0}, {"M", len(v.Members) > 0}} {
		if f.set {
			letters += f.letter
		}
	}
	return letters
}

// isUTF8 reports whether nothing has to be taken out of a string to make it valid.
func isUTF8(s string) bool { return strings.ToValidUTF8(s, "") == s }

// properValue is what the chapter asks of a value apart from its depth and what is in it.
func properValue(v api.Value) bool {
	var keys []string
	for _, m := range v.Members {
		keys = append(keys, m.Key)
	}
	slices.Sort(keys)
	distinct := len(slices.Compact(slices.Clone(keys))) == len(keys)
	return v.Kind >= 0 && v.Kind < len(used) && strings.Trim(fields(v), used[v.Kind]) == "" &&
		isUTF8(v.S) && distinct && !slices.ContainsFunc(keys, func(k string) bool { return !isUTF8(k) })
}

// valid is the chapter's definition of a valid value, read depth by depth. It stops at the first one that is too great.
func valid(root api.Value) bool {
	level := []api.Value{root}
	for depth := 1; len(level) > 0; depth++ {
		var next []api.Value
		for _, v := range level {
			if depth > 100 || !properValue(v) {
				return false
			}
			next = append(next, v.Items...)
			for _, m := range v.Members {
				next = append(next, m.Value)
			}
		}
		level = next
	}
	return true
}

// escapes are the runes with an escape sequence of a single letter.
var escapes = map[rune]string{'"': `\"`, '\\': `\\`, 8: `\b`, 9: `\t`, 10: `\n`, 12: `\f`, 13: `\r`}

// quoted is the definition of canonical JSON strings, of layer 10.
func quoted(s string) string {
	var out strings.Builder
	for _, r := range s {
		switch sequence, found := escapes[r]; {
		case found:
			out.WriteString(sequence)
		case r < 32:
			fmt.Fprintf(&out, `\u%04x`, r)
		default:
			out.WriteRune(r)
		}
	}
	return `"` + out.String() + `"`
}

// text is the chapter's definition of the canonical text of a valid value.
func text(v api.Value) string {
	var parts []string
	switch v.Kind {
	case 0:
		return "null"
	case 1:
		return map[bool]string{true: "true", false: "false"}[v.B]
	case 2:
		return big.NewInt(v.N).String()
	case 3:
		return quoted(v.S)
	case 4:
		for _, x := range v.Items {
			parts = append(parts, text(x))
		}
		return "[" + strings.Join(parts, ",") + "]"
	}
	for _, m := range v.Members {
		parts = append(parts, quoted(m.Key)+":"+text(m.Value))
	}
	return "{" + strings.Join(parts, ",") + "}"
}

// null, boolean, integer, str, array, object and member are the chapter's definitions of the functions with similar names.
func null() api.Value { return api.Value{} }

func boolean(b bool) api.Value { return api.Value{Kind: 1, B: b} }

func integer(n int64) api.Value { return api.Value{Kind: 2, N: n} }

func str(s string) api.Value { return api.Value{Kind: 3, S: s} }

func array(items ...api.Value) api.Value { return clone(api.Value{Kind: 4, Items: items}) }

func object(members ...api.Member) api.Value { return clone(api.Value{Kind: 5, Members: members}) }

func member(key string, v api.Value) api.Member { return api.Member{Key: key, Value: clone(v)} }

// same compares two values with their offsets.
func same(a, b api.Value) bool {
	return a.Kind == b.Kind && a.B == b.B && a.N == b.N && a.S == b.S && a.At == b.At &&
		slices.EqualFunc(a.Items, b.Items, same) && slices.EqualFunc(a.Members, b.Members, sameMember)
}

func sameMember(a, b api.Member) bool {
	return a.Key == b.Key && a.At == b.At && same(a.Value, b.Value)
}

// clone returns a copy of a value that shares nothing with it.
func clone(v api.Value) api.Value {
	var items []api.Value
	for _, x := range v.Items {
		items = append(items, clone(x))
	}
	var members []api.Member
	for _, m := range v.Members {
		members = append(members, api.Member{Key: m.Key, Value: clone(m.Value), At: m.At})
	}
	v.Items, v.Members = items, members
	return v
}
