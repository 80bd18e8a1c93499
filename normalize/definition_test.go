package normalize_test

import (
	"fmt"
	"slices"
	"strings"

	"feedvault/api"
	"feedvault/model"
)

// least and greatest are the times of the first and the last second of the years 1 to 9999.
const (
	least    = -62135596800
	greatest = 253402300799
)

// isSpace is the definition of white space, of layer 1.
func isSpace(r rune) bool { return r == 9 || r == 10 || r == 13 || r == 32 }

// collapse is the definition of the collapsed form of a string that is valid UTF-8, of layer 1.
func collapse(s string) string { return strings.Join(strings.FieldsFunc(s, isSpace), " ") }

// checkString is the definition of the error of text.Check, of layer 1.
func checkString(s string) api.Errno {
	for i, r := range s {
		switch {
		case r == 0xFFFD && !strings.HasPrefix(s[i:], "\uFFFD"):
			return 5
		case r < 32 && !isSpace(r) || r == 0xFFFE || r == 0xFFFF:
			return 6
		}
	}
	return 0
}

// The definitions below list all errors that apply, in the chapter's order, and 0 for what is no error.

// first returns the first error of a list.
func first(list []api.Errno) api.Errno {
	for _, x := range list {
		if x != 0 {
			return x
		}
	}
	return 0
}

// when returns an error if something is wrong.
func when(wrong bool, x api.Errno) api.Errno {
	if wrong {
		return x
	}
	return 0
}

// wrongTime reports whether a time is outside the limits.
func wrongTime(n int64) bool { return n < least || n > greatest }

// entryErrors are the errors of P14.1.
func entryErrors(e api.Entry) []api.Errno {
	return []api.Errno{checkString(e.ID), checkString(e.Title), checkString(e.Link), checkString(e.Content), when(collapse(e.ID) == "", 19), when(wrongTime(e.Updated), 3)}
}

// feedErrors are the errors of P14.2.
func feedErrors(f api.Feed) []api.Errno {
	var out []api.Errno
	for _, name := range f.Path {
		out = append(out, checkString(name))
	}
	out = append(out, checkString(f.ID), checkString(f.Title), checkString(f.Link))
	for _, name := range f.Path {
		out = append(out, when(collapse(name) == "", 19))
	}
	out = append(out, when(collapse(f.ID) == "", 19), when(len(f.Path) > 64, 9), when(wrongTime(f.Updated), 3))
	for _, e := range f.Entries {
		out = append(out, entryErrors(e)...)
	}
	return out
}

// wantedEntry is the definition of P14.1.
func wantedEntry(e api.Entry) (api.Entry, api.Errno) {
	if x := first(entryErrors(e)); x != 0 {
		return api.Entry{}, x
	}
	return api.Entry{ID: collapse(e.ID), Title: collapse(e.Title), Link: collapse(e.Link), Content: collapse(e.Content), Updated: e.Updated}, 0
}

// wantedFeed is the definition of P14.2.
func wantedFeed(f api.Feed) (api.Feed, api.Errno) {
	if x := first(feedErrors(f)); x != 0 {
		return api.Feed{}, x
	}
	out := api.Feed{ID: collapse(f.ID), Title: collapse(f.Title), Link: collapse(f.Link), Updated: f.Updated}
	for _, name := range f.Path {
		out.Path = append(out.Path, collapse(name))
	}
	var entries []api.Entry
	for _, e := range f.Entries {
		e, _ := wantedEntry(e)
		entries = append(entries, e)
	}
	out.Entries = combined(entries)
	return out, 0
}

// combined is the definition of combining entries: it looks for each ID through the entire list.
func combined(entries []api.Entry) []api.Entry {
	var out []api.Entry
	for i, e := range entries {
		sameID := func(x api.Entry) bool { return x.ID == e.ID }
		if slices.ContainsFunc(entries[:i], sameID) {
			continue
		}
		for _, x := range entries[i+1:] {
			if sameID(x) {
				e = model.LaterEntry(e, x)
			}
		}
		out = insert(out, e, model.CompareEntries)
	}
	return out
}

// insert puts an element into a list that is in order.
func insert[T any](list []T, x T, compare func(T, T) int) []T {
	i := 0
	for i < len(list) && compare(list[i], x) < 0 {
		i++
	}
	return slices.Insert(list, i, x)
}

// wantedArchive is the definition of P14.3: it looks for each ID through all feeds.
func wantedArchive(feeds ...api.Feed) (api.Archive, api.Errno) {
	var normal, out []api.Feed
	for _, f := range feeds {
		f, x := wantedFeed(f)
		if x != 0 {
			return api.Archive{}, x
		}
		normal = append(normal, f)
	}
	for i, f := range normal {
		sameID := func(x api.Feed) bool { return x.ID == f.ID }
		if slices.ContainsFunc(normal[:i], sameID) {
			continue
		}
		entries := slices.Clone(f.Entries)
		for _, x := range normal[i+1:] {
			if sameID(x) {
				f, entries = model.LaterFeed(f, x), append(entries, x.Entries...)
			}
		}
		f.Entries = combined(entries)
		out = insert(out, f, model.CompareFeeds)
	}
	return api.Archive{Feeds: out}, 0
}

// show writes an archive so that two of them are equal exactly if they look the same. It does not tell nil from other empty lists.
func show(a api.Archive) string { return showFeeds(a.Feeds...) }

func showFeeds(feeds ...api.Feed) string {
	var out strings.Builder
	for _, f := range feeds {
		fmt.Fprintf(&out, "feed %d of %q, ID %q, title %q, link %q, updated %d\n", len(f.Path), f.Path, f.ID, f.Title, f.Link, f.Updated)
		for _, e := range f.Entries {
			out.WriteString(showEntry(e))
		}
	}
	return out.String()
}

func showEntry(e api.Entry) string {
	return fmt.Sprintf("entry ID %q, title %q, link %q, content %q, updated %d\n", e.ID, e.Title, e.Link, e.Content, e.Updated)
}

// clone returns a copy of feeds that shares nothing with them.
func clone(feeds ...api.Feed) []api.Feed {
	out := []api.Feed{}
	for _, f := range feeds {
		f.Path = append([]string{}, f.Path...)
		f.Entries = append([]api.Entry{}, f.Entries...)
		out = append(out, f)
	}
	return out
}
