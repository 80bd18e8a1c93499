package model_test

import (
	"fmt"
	"slices"
	"strings"

	"feedvault/api"
)

// least and greatest are the times of the first and the last second of the years 1 to 9999.
const (
	least    = -62135596800
	greatest = 253402300799
)

// isUTF8 reports whether nothing has to be taken out of a string to make it valid.
func isUTF8(s string) bool { return strings.ToValidUTF8(s, "") == s }

// isSpace is the definition of white space, of layer 1.
func isSpace(r rune) bool { return r == 9 || r == 10 || r == 13 || r == 32 }

// validString is the definition of valid strings, of layer 1.
func validString(s string) bool {
	wrong := func(r rune) bool { return r < 32 && !isSpace(r) || r == 0xFFFE || r == 0xFFFF }
	return isUTF8(s) && !strings.ContainsFunc(s, wrong) && strings.Join(strings.FieldsFunc(s, isSpace), " ") == s
}

// allValid reports whether all strings are valid, the time is within the limits, and the ID is not empty.
func allValid(id string, updated int64, others ...string) bool {
	return validString(id) && id != "" && least <= updated && updated <= greatest && !slices.ContainsFunc(others, func(s string) bool { return !validString(s) })
}

// validEntry is the chapter's definition of a valid entry.
func validEntry(e api.Entry) bool { return allValid(e.ID, e.Updated, e.Title, e.Link, e.Content) }

// validFeed is the chapter's definition of a valid feed, which compares each entry with each one after it.
func validFeed(f api.Feed) bool {
	if len(f.Path) > 64 || slices.Contains(f.Path, "") || !allValid(f.ID, f.Updated, append([]string{f.Title, f.Link}, f.Path...)...) {
		return false
	}
	for i, e := range f.Entries {
		if !validEntry(e) || slices.ContainsFunc(f.Entries[i+1:], func(x api.Entry) bool { return x.ID == e.ID || compareEntries(e, x) != -1 }) {
			return false
		}
	}
	return true
}

// validArchive is the chapter's definition of a valid archive, which compares each feed with each one after it.
func validArchive(a api.Archive) bool {
	for i, f := range a.Feeds {
		if !validFeed(f) || slices.ContainsFunc(a.Feeds[i+1:], func(x api.Feed) bool { return x.ID == f.ID || compareFeeds(f, x) != -1 }) {
			return false
		}
	}
	return true
}

// errno is the error of what is valid or not.
func errno(valid bool) api.Errno {
	if valid {
		return 0
	}
	return 22
}

// compareStrings is the chapter's order of strings.
func compareStrings(a, b string) int {
	switch {
	case a == b:
		return 0
	case strings.HasPrefix(b, a):
		return -1
	case strings.HasPrefix(a, b):
		return 1
	}
	i := 0
	for a[i] == b[i] {
		i++
	}
	if a[i] < b[i] {
		return -1
	}
	return 1
}

// comparePaths is the chapter's order of paths.
func comparePaths(a, b []string) int {
	switch {
	case len(a) == 0 && len(b) == 0:
		return 0
	case len(a) == 0:
		return -1
	case len(b) == 0:
		return 1
	case a[0] != b[0]:
		return compareStrings(a[0], b[0])
	}
	return comparePaths(a[1:], b[1:])
}

// compareFeeds is the chapter's order of feeds.
func compareFeeds(a, b api.Feed) int {
	// The ID is like a further name where the paths are equal.
	if slices.Equal(a.Path, b.Path) {
		return compareStrings(a.ID, b.ID)
	}
	return comparePaths(a.Path, b.Path)
}

// compareEntries is the chapter's order of entries.
func compareEntries(a, b api.Entry) int {
	switch {
	case a.Updated > b.Updated:
		return -1
	case a.Updated < b.Updated:
		return 1
	}
	return compareStrings(a.ID, b.ID)
}

// escapes are the runes with an escape sequence of a single letter.
var escapes = map[rune]string{'"': `\"`, '\\': `\\`, 8: `\b`, 9: `\t`, 10: `\n`, 12: `\f`, 13: `\r`}

// quoted is the definition of canonical JSON strings, of layer 10.
func quoted(s string) string {
	var out strings.Builder
	for _, r := range s {
		switch sequence, found := escapes[r]; {
		case found:
			out.WriteString(sequence)
		case r < 32:
			fmt.Fprintf(&out, `\u%04x`, r)
		default:
			out.WriteRune(r)
		}
	}
	return `"` + out.String() + `"`
}

// quotedList returns the canonical JSON strings of strings, with commas between them.
func quotedList(list ...string) string {
	var parts []string
	for _, s := range list {
		parts = append(parts, quoted(s))
	}
	return strings.Join(parts, ",")
}

// entryKey is the chapter's definition of the canonical bytes of an entry.
func entryKey(e api.Entry) string {
	if !isUTF8(e.ID) || !isUTF8(e.Title) || !isUTF8(e.Link) || !isUTF8(e.Content) {
		return ""
	}
	return fmt.Sprintf("[%s,%d]", quotedList(e.ID, e.Title, e.Link, e.Content), e.Updated)
}

// feedKey is the chapter's definition of the canonical bytes of a feed.
func feedKey(f api.Feed) string {
	if slices.ContainsFunc(append([]string{f.ID, f.Title, f.Link}, f.Path...), func(s string) bool { return !isUTF8(s) }) {
		return ""
	}
	return fmt.Sprintf("[[%s],%s,%d]", quotedList(f.Path...), quotedList(f.ID, f.Title, f.Link), f.Updated)
}

// laterEntry is the chapter's definition of the later one of two entries.
func laterEntry(a, b api.Entry) api.Entry {
	if b.Updated > a.Updated || b.Updated == a.Updated && compareStrings(entryKey(b), entryKey(a)) == 1 {
		return b
	}
	return a
}

// laterFeed is the chapter's definition of the later one of two feeds, without its entries.
func laterFeed(a, b api.Feed) api.Feed {
	f := a
	if b.Updated > a.Updated || b.Updated == a.Updated && compareStrings(feedKey(b), feedKey(a)) == 1 {
		f = b
	}
	return api.Feed{Path: f.Path, ID: f.ID, Title: f.Title, Link: f.Link, Updated: f.Updated}
}

// show writes an archive so that two of them are equal exactly if they look the same. It does not tell nil from other empty lists.
func show(a api.Archive) string {
	var out strings.Builder
	for _, f := range a.Feeds {
		out.WriteString(showFeed(f))
	}
	return out.String()
}

func showFeed(f api.Feed) string {
	var out strings.Builder
	fmt.Fprintf(&out, "feed %d of %q, ID %q, title %q, link %q, updated %d\n", len(f.Path), f.Path, f.ID, f.Title, f.Link, f.Updated)
	for _, e := range f.Entries {
		out.WriteString(showEntry(e))
	}
	return out.String()
}

func showEntry(e api.Entry) string {
	return fmt.Sprintf("entry ID %q, title %q, link %q, content %q, updated %d\n", e.ID, e.Title, e.Link, e.Content, e.Updated)
}

// clone returns a copy of an archive that shares nothing with it.
func clone(a api.Archive) api.Archive {
	var feeds []api.Feed
	for _, f := range a.Feeds {
		feeds = append(feeds, cloneFeed(f))
	}
	return api.Archive{Feeds: feeds}
}

func cloneFeed(f api.Feed) api.Feed {
	f.Path = append([]string{}, f.Path...)
	f.Entries = append([]api.Entry{}, f.Entries...)
	return f
}
