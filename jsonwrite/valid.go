package jsonwrite

import (
	"unicode/utf8"

	"feedvault/api"
)

// valid reports whether a value of a depth and everything in it is valid. It checks the depth first, so that it goes no deeper than valid values do.
func valid(v api.Value, depth int) bool {
	return depth <= api.MaxNest && proper(v) && utf8.ValidString(v.S) &&
		validItems(v.Items, depth+1) && validMembers(v.Members, depth+1)
}

// proper reports whether a value has one of the kinds of api, and nothing in the fields that its kind does not use.
func proper(v api.Value) bool {
	switch v.Kind {
	case api.Null:
	case api.Bool:
		v.B = false
	case api.Int:
		v.N = 0
	case api.String:
		v.S = ""
	case api.Array:
		v.Items = nil
	case api.Object:
		v.Members = nil
	default:
		return false
	}
	return !v.B && v.N == 0 && v.S == "" && len(v.Items) == 0 && len(v.Members) == 0
}

// validItems reports whether the items of an array are valid, which have a depth.
func validItems(items []api.Value, depth int) bool {
	for _, x := range items {
		if !valid(x, depth) {
			return false
		}
	}
	return true
}

// validMembers reports whether the members of an object are valid, whose values have a depth.
func validMembers(members []api.Member, depth int) bool {
	found := map[string]bool{}
	for _, m := range members {
		if found[m.Key] || !utf8.ValidString(m.Key) || !valid(m.Value, depth) {
			return false
		}
		found[m.Key] = true
	}
	return true
}
