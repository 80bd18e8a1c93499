package model

import (
	"feedvault/api"
	"feedvault/text"
)

// validEntry reports whether an entry is valid.
func validEntry(e api.Entry) bool {
	return validID(e.ID) && validStrings(e.Title, e.Link, e.Content) && validTime(e.Updated)
}

// validFeed reports whether a feed is valid.
func validFeed(f api.Feed) bool {
	return validPath(f.Path) && validID(f.ID) && validStrings(f.Title, f.Link) && validTime(f.Updated) &&
		validList(f.Entries, validEntry, CompareEntries, func(e api.Entry) string { return e.ID })
}

// validArchive reports whether an archive is valid.
func validArchive(a api.Archive) bool {
	return validList(a.Feeds, validFeed, CompareFeeds, func(f api.Feed) string { return f.ID })
}

// validPath reports whether a path has names that are valid, and not too many of them.
func validPath(path []string) bool {
	for _, name := range path {
		if name == "" {
			return false
		}
	}
	return len(path) <= api.MaxFolders && validStrings(path...)
}

// validID reports whether a string is valid and not empty.
func validID(id string) bool { return id != "" && validStrings(id) }

// validStrings reports whether all strings are valid.
func validStrings(list ...string) bool {
	for _, s := range list {
		if !text.Valid(s) {
			return false
		}
	}
	return true
}

// validTime reports whether a time is within the limits.
func validTime(t int64) bool { return t >= api.MinTime && t <= api.MaxTime }

// validList reports whether the elements of a list are valid and in strictly ascending order, and have different IDs. The order alone does not tell the latter, since it looks at other fields before the ID.
func validList[T any](list []T, valid func(T) bool, compare func(T, T) int, id func(T) string) bool {
	found := map[string]bool{}
	for i, x := range list {
		if !valid(x) || found[id(x)] || i > 0 && compare(list[i-1], x) >= 0 {
			return false
		}
		found[id(x)] = true
	}
	return true
}
