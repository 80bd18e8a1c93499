package normalize

import (
	"slices"

	"feedvault/api"
	"feedvault/model"
)

// combineEntries returns the later one of all entries with the same ID, for each ID.
func combineEntries(entries []api.Entry) []api.Entry {
	later := func(group []api.Entry) api.Entry { return latest(group, model.LaterEntry) }
	return combine(entries, func(e api.Entry) string { return e.ID }, later, model.CompareEntries)
}

// combineFeeds returns one feed with the entries of all feeds with the same ID, for each ID.
func combineFeeds(feeds []api.Feed) []api.Feed {
	return combine(feeds, func(f api.Feed) string { return f.ID }, joinFeeds, model.CompareFeeds)
}

// joinFeeds returns the later one of some feeds, with the combined entries of all of them.
func joinFeeds(group []api.Feed) api.Feed {
	var entries []api.Entry
	for _, f := range group {
		entries = append(entries, f.Entries...)
	}
	f := latest(group, model.LaterFeed)
	f.Entries = combineEntries(entries)
	return f
}

// combine groups the elements of a list by their IDs, joins each group to one element, and sorts these. Elements with different IDs are never equal in the order of compare, so that the order in which the map yields its groups does not matter.
func combine[T any](list []T, id func(T) string, join func([]T) T, compare func(a, b T) int) []T {
	groups := map[string][]T{}
	for _, x := range list {
		groups[id(x)] = append(groups[id(x)], x)
	}
	var out []T
	for _, group := range groups {
		out = append(out, join(group))
	}
	slices.SortFunc(out, compare)
	return out
}

// latest returns the later one of all elements of a list that is not empty. As the choice is associative, it chooses from each half first: from the first element on, a long element would be compared, and thus written, once for each element after it.
func latest[T any](list []T, later func(a, b T) T) T {
	if len(list) == 1 {
		return list[0]
	}
	half := len(list) / 2
	return later(latest(list[:half], later), latest(list[half:], later))
}
