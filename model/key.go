package model

import (
	"feedvault/api"
	"feedvault/jsonwrite"
)

// EntryKey returns the canonical bytes of an entry.
func EntryKey(e api.Entry) string {
	return key(append(values(e.ID, e.Title, e.Link, e.Content), jsonwrite.Int(e.Updated))...)
}

// FeedKey returns the canonical bytes of a feed without its entries.
func FeedKey(f api.Feed) string {
	parts := []api.Value{jsonwrite.Array(values(f.Path...)...)}
	parts = append(parts, values(f.ID, f.Title, f.Link)...)
	return key(append(parts, jsonwrite.Int(f.Updated))...)
}

// values returns the values of strings.
func values(list ...string) []api.Value {
	var out []api.Value
	for _, s := range list {
		out = append(out, jsonwrite.String(s))
	}
	return out
}

// key returns the canonical text of an array. The array is neither deep nor has objects, so that Write fails only for a string that is not valid UTF-8, and then returns the empty string that is asked for.
func key(parts ...api.Value) string {
	out, _ := jsonwrite.Write(jsonwrite.Array(parts...))
	return out
}
