package model_test

import (
	"math"
	"math/rand/v2"
	"slices"
	"strconv"
	"strings"
	"sync"
	"testing"

	"feedvault/api"
	"feedvault/model"
)

// goodStrings are valid and not empty. The others are not valid: they are not collapsed, have runes that are no XML characters, or are not valid UTF-8.
var (
	goodStrings  = []string{"a", "A", "ab", "a b", "a b c", "-1", "0", "\"", "\\", "\\n", "[]", ",", "a,b", "a\",\"b", "</a>", "&", "!", "#", "]", "\x7F", "\u0080", "\u0085", "\u00A0", "\u00A0\u00A0", "é", "\u07FF", "\u0800", "€", "\u2003 \u2003", "\u2028", "\uD7FF", "\uE000", "\uFDD0", "\uFEFF", "\uFFFD", "\U00010000", "\U0001FFFE", "😀", "\U0010FFFF", "aé€😀", "e\u0301", strings.Repeat("x ", 500) + "y"}
	notCollapsed = []string{" ", "  ", "\t", "\n", "\r", " a", "a ", "\ta", "a\n", "\ra", "a  b", "a\tb", "a\nb", "a\rb", "a \tb", "a\r\nb", " é", "😀 "}
	wrongChars   = []string{"\x00", "\x01", "\b", "\v", "\f", "\x0E", "\x1F", "a\x00", "\x1Fa", "a\x0Bb", "\uFFFE", "\uFFFF", "a\uFFFEb", "é\uFFFF"}
	wrongBytes   = []string{"\xFF", "\xFE", "\x80", "\xBF", "\xC3", "\xE9", "\xE2\x82", "\xF0\x9F\x98", "\xC0\x80", "\xC1\xBF", "\xE0\x80\x80", "\xE0\x9F\xBF", "\xED\xA0\x80", "\xED\xBF\xBF", "\xED\xA0\xBD\xED\xB8\x80", "\xF0\x80\x80\x80", "\xF4\x90\x80\x80", "\xF8\x88\x80\x80\x80", "a\xFF", "\xC3a", "a \xE2\x82 b"}
)

func badStrings() []string { return slices.Concat(notCollapsed, wrongChars, wrongBytes) }

// goodTimes are within the limits, and badTimes are not.
var (
	goodTimes = []int64{least, least + 1, -1 << 32, -1 << 31, -7, -1, 0, 1, 7, 1 << 31, 1 << 32, greatest - 1, greatest}
	badTimes  = []int64{least - 1, greatest + 1, math.MinInt64, math.MinInt64 + 1, math.MaxInt64 - 1, math.MaxInt64, -1 << 40, 1 << 40, math.MinInt64 + greatest}
)

// sample returns a valid archive with feeds with no, one and several names and entries. Some of the IDs occur in different feeds, and as that of a feed and of an entry.
func sample() api.Archive {
	several := []api.Entry{{ID: "c", Title: "t", Link: "l", Content: "a b", Updated: 9}, {ID: "d", Updated: 9}, {ID: "a", Title: "é", Content: "😀", Updated: 4}, {ID: "b", Link: "€", Updated: least}}
	return clone(api.Archive{Feeds: []api.Feed{
		{ID: "m", Title: "t", Link: "l", Updated: 3},
		{ID: "n", Updated: greatest, Entries: []api.Entry{{ID: "a", Content: "x"}}},
		{Path: []string{"p"}, ID: "b", Updated: least, Entries: several},
		{Path: []string{"p", "q"}, ID: "a", Title: "x", Entries: several},
		{Path: []string{"p", "q", "p"}, ID: "c", Entries: several[1:]},
		{Path: []string{"q"}, ID: "é", Link: "x", Updated: 3},
	}})
}

// places returns where the strings and the times of an archive are.
func places(a api.Archive) (strings []*string, times []*int64) {
	for i := range a.Feeds {
		f := &a.Feeds[i]
		for j := range f.Path {
			strings = append(strings, &f.Path[j])
		}
		strings = append(strings, &f.ID, &f.Title, &f.Link)
		times = append(times, &f.Updated)
		for j := range f.Entries {
			e := &f.Entries[j]
			strings = append(strings, &e.ID, &e.Title, &e.Link, &e.Content)
			times = append(times, &e.Updated)
		}
	}
	return strings, times
}

// withString and withTime return copies of an archive of which one string or time is replaced, for each one.
func withString(a api.Archive, s string) []api.Archive {
	var out []api.Archive
	found, _ := places(a)
	for i := range found {
		c := clone(a)
		found, _ := places(c)
		*found[i] = s
		out = append(out, c)
	}
	return out
}

func withTime(a api.Archive, n int64) []api.Archive {
	var out []api.Archive
	_, found := places(a)
	for i := range found {
		c := clone(a)
		_, found := places(c)
		*found[i] = n
		out = append(out, c)
	}
	return out
}

// edits returns copies of a list with an element missing, doubled, moved to the end, or exchanged with the next one.
func edits[T any](list []T) [][]T {
	var out [][]T
	for i, x := range list {
		without := slices.Delete(slices.Clone(list), i, i+1)
		out = append(out, without, slices.Insert(slices.Clone(list), i, x), append(slices.Clone(without), x))
		if i > 0 {
			out = append(out, slices.Insert(slices.Clone(without), i-1, x))
		}
	}
	return out
}

// rearranged returns copies of an archive of which one list of feeds, names or entries is edited.
func rearranged(a api.Archive) []api.Archive {
	var out []api.Archive
	for _, feeds := range edits(a.Feeds) {
		out = append(out, clone(api.Archive{Feeds: feeds}))
	}
	for i, f := range a.Feeds {
		for _, path := range edits(f.Path) {
			c := clone(a)
			c.Feeds[i].Path = path
			out = append(out, c)
		}
		for _, entries := range edits(f.Entries) {
			c := clone(a)
			c.Feeds[i].Entries = entries
			out = append(out, c)
		}
	}
	return out
}

// compareArchive compares the checks of an archive and of everything in it, and its canonical bytes, with their definitions. It reports whether the archive is valid.
func compareArchive(t *testing.T, a api.Archive) bool {
	t.Helper()
	before := show(a)
	want := errno(validArchive(a))
	if e := model.Check(a); e != want {
		t.Errorf("Check(%.2000s) = %v; want %v", before, e, want)
	}
	for _, f := range a.Feeds {
		if e, want := model.CheckFeed(f), errno(validFeed(f)); e != want {
			t.Errorf("CheckFeed(%.1000s) = %v; want %v", showFeed(f), e, want)
		}
		if key, want := model.FeedKey(f), feedKey(f); key != want {
			t.Errorf("FeedKey(%.1000s) = %.1000q; want %.1000q", showFeed(f), key, want)
		}
		for _, e := range f.Entries {
			compareEntry(t, e)
		}
	}
	if !model.Equal(a, a) || !model.Equal(a, clone(a)) || !model.Equal(clone(a), a) {
		t.Errorf("%.2000s is not equal to itself", before)
	}
	if show(a) != before {
		t.Errorf("%.2000s became %.2000s", before, show(a))
	}
	return want == api.OK
}

// compareEntry compares the check of an entry and its canonical bytes with their definitions. It reports whether the entry is valid.
func compareEntry(t *testing.T, e api.Entry) bool {
	t.Helper()
	want := errno(validEntry(e))
	if got := model.CheckEntry(e); got != want {
		t.Errorf("CheckEntry(%.1000s) = %v; want %v", showEntry(e), got, want)
	}
	if key, want := model.EntryKey(e), entryKey(e); key != want {
		t.Errorf("EntryKey(%.1000s) = %.1000q; want %.1000q", showEntry(e), key, want)
	}
	return want == api.OK
}

// wantArchive checks an archive that is valid or not.
func wantArchive(t *testing.T, a api.Archive, valid bool) {
	t.Helper()
	if e := model.Check(a); e != errno(valid) {
		t.Errorf("Check(%.2000s) = %v", show(a), e)
	}
	compareArchive(t, a)
}

// wantFeed checks a feed that is valid or not: alone, and as one of several.
func wantFeed(t *testing.T, f api.Feed, valid bool) {
	t.Helper()
	if e := model.CheckFeed(f); e != errno(valid) {
		t.Errorf("CheckFeed(%.1000s) = %v", showFeed(f), e)
	}
	wantArchive(t, api.Archive{Feeds: []api.Feed{f}}, valid)
	// The path of after is greater than any other valid one here.
	before, after := api.Feed{ID: "before"}, api.Feed{Path: []string{"\U0010FFFF\U0010FFFF"}, ID: "after"}
	if len(f.Path) > 0 {
		wantArchive(t, api.Archive{Feeds: []api.Feed{before, f}}, valid)
		wantArchive(t, api.Archive{Feeds: []api.Feed{before, f, after}}, valid)
	}
	wantArchive(t, api.Archive{Feeds: []api.Feed{f, after}}, valid)
}

// wantEntry checks an entry that is valid or not: alone, and as one of several.
func wantEntry(t *testing.T, e api.Entry, valid bool) {
	t.Helper()
	if got := model.CheckEntry(e); got != errno(valid) {
		t.Errorf("CheckEntry(%.1000s) = %v", showEntry(e), got)
	}
	compareEntry(t, e)
	wantFeed(t, api.Feed{Path: []string{"p"}, ID: "f", Entries: []api.Entry{e}}, valid)
	if e.Updated > least && e.Updated < greatest {
		before, after := api.Entry{ID: "before", Updated: greatest}, api.Entry{ID: "after", Updated: least}
		wantFeed(t, api.Feed{Path: []string{"p"}, ID: "f", Entries: []api.Entry{before, e, after}}, valid)
	}
}

// P13.1: each string of an entry, a feed and a path.
func TestCheckStrings(t *testing.T) {
	check := func(s string, valid, id bool) {
		for _, e := range []api.Entry{{ID: "a", Title: s}, {ID: "a", Link: s}, {ID: "a", Content: s}, {ID: "a", Title: s, Link: s, Content: s}} {
			wantEntry(t, e, valid)
		}
		for _, f := range []api.Feed{{ID: "a", Title: s}, {ID: "a", Link: s}, {Path: []string{"b"}, ID: "a", Title: s, Link: s}} {
			wantFeed(t, f, valid)
		}
		wantEntry(t, api.Entry{ID: s}, id)
		wantEntry(t, api.Entry{ID: s, Title: "a", Link: "b", Content: "c", Updated: 7}, id)
		for _, f := range []api.Feed{{Path: []string{"p"}, ID: s}, {Path: []string{s}, ID: "a"}, {Path: []string{s, "b", "c"}, ID: "a"}, {Path: []string{"b", s, "c"}, ID: "a"}, {Path: []string{"b", "c", s}, ID: "a"}, {Path: []string{s, s}, ID: s, Title: "t", Link: "l", Updated: -7}} {
			wantFeed(t, f, id)
		}
	}
	check("", true, false)
	for _, s := range goodStrings {
		check(s, true, true)
	}
	for _, s := range badStrings() {
		check(s, false, false)
	}
	wantEntry(t, api.Entry{}, false)
	wantFeed(t, api.Feed{}, false)
	wantFeed(t, api.Feed{Title: "a", Link: "b", Path: []string{"c"}, Entries: []api.Entry{{ID: "d"}}}, false)
	wantEntry(t, api.Entry{Title: "a", Link: "b", Content: "c"}, false)
}

// P13.1: all strings of one and two bytes.
func TestCheckShortStrings(t *testing.T) {
	for i := range 1 << 16 {
		s := string([]byte{byte(i >> 8), byte(i)})
		for _, s := range []string{s, s[1:]} {
			e := api.Entry{ID: s, Title: s, Link: s, Content: s}
			f := api.Feed{Path: []string{s}, ID: s, Title: s, Link: s}
			want := errno(validString(s))
			if model.CheckEntry(e) != want || model.CheckFeed(f) != want || model.Check(api.Archive{Feeds: []api.Feed{f}}) != want {
				t.Fatalf("%q: want %v", s, want)
			}
			if model.EntryKey(e) != entryKey(e) || model.FeedKey(f) != feedKey(f) {
				t.Fatalf("the canonical bytes of %q are %q and %q", s, model.EntryKey(e), model.FeedKey(f))
			}
		}
	}
}

// P13.1: the times of entries and feeds.
func TestCheckTimes(t *testing.T) {
	for _, n := range slices.Concat(goodTimes, badTimes) {
		valid := slices.Contains(goodTimes, n)
		wantEntry(t, api.Entry{ID: "a", Updated: n}, valid)
		wantEntry(t, api.Entry{ID: "a", Title: "t", Link: "l", Content: "c", Updated: n}, valid)
		wantFeed(t, api.Feed{ID: "a", Updated: n}, valid)
		wantFeed(t, api.Feed{Path: []string{"p"}, ID: "a", Updated: n, Entries: []api.Entry{{ID: "a"}}}, valid)
	}
}

// P13.1: paths of each number of names, and wrong names at each place.
func TestCheckPaths(t *testing.T) {
	for n := range 200 {
		path := slices.Repeat([]string{"a b"}, n)
		wantFeed(t, api.Feed{Path: path, ID: "a"}, n <= 64)
		for i := range min(n, 66) {
			for _, s := range []string{"", " ", "\xFF"} {
				wrong := slices.Clone(path)
				wrong[i] = s
				if e := model.CheckFeed(api.Feed{Path: wrong, ID: "a"}); e != api.ErrInvalid {
					t.Errorf("CheckFeed with the name %q at %d of %d: %v", s, i, n, e)
				}
			}
		}
	}
	wantFeed(t, api.Feed{Path: slices.Repeat([]string{"x"}, 1<<16), ID: "a"}, false)
	wantFeed(t, api.Feed{Path: []string{}, ID: "a", Entries: []api.Entry{}}, true)
}

// P13.1: entries in the order of times and IDs, and in other ones.
func TestCheckEntryOrder(t *testing.T) {
	e := func(id string, updated int64) api.Entry { return api.Entry{ID: id, Updated: updated} }
	for _, entries := range [][]api.Entry{
		nil, {}, {e("a", 5)}, {e("a", 5), e("b", 5)}, {e("b", 5), e("a", 4)}, {e("a", 1), e("b", 0), e("c", -1)}, {e("c", greatest), e("b", 0), e("a", least)},
		{e("a", 5), e("aa", 5), e("ab", 5), e("b", 5)}, {e("A", 5), e("a", 5), e("\x7F", 5), e("é", 5), e("\uE000", 5), e("😀", 5)}, {e("-2", 5), e("10", 5), e("9", 5)},
		{e("b", 5), e("c", 5), e("a", 4), e("d", 4), e("e", 3)},
	} {
		wantFeed(t, api.Feed{Path: []string{"p"}, ID: "f", Entries: entries}, true)
	}
	for _, entries := range [][]api.Entry{
		{e("b", 5), e("a", 5)}, {e("a", 4), e("b", 5)}, {e("a", 5), e("a", 5)}, {e("ab", 5), e("a", 5)}, {e("aa", 5), e("ab", 5), e("a", 5)}, {e("é", 5), e("a", 5)}, {e("😀", 5), e("\uE000", 5)}, {e("9", 5), e("10", 5)},
		{e("b", -1), e("a", 0)}, {e("b", least), e("a", greatest)}, {e("b", 5), e("c", 5), e("d", 4), e("a", 4), e("e", 3)}, {e("b", 5), e("d", 4), e("e", 3), e("a", 4)}, {e("c", 5), e("b", 5), e("a", 4)}, {e("a", 5), e("b", 4), e("c", 4), e("c", 4)},
		{{ID: "a", Title: "x"}, {ID: "a", Title: "y"}}, {{ID: "a", Title: "y"}, {ID: "a", Title: "x"}}, {{ID: "b", Title: "x"}, {ID: "a", Title: "y"}},
	} {
		wantFeed(t, api.Feed{Path: []string{"p"}, ID: "f", Entries: entries}, false)
	}
}

// P13.1: equal IDs beside each other and apart, in one feed and in different ones.
func TestCheckIDs(t *testing.T) {
	e := func(id string, updated int64) api.Entry { return api.Entry{ID: id, Updated: updated} }
	for _, entries := range [][]api.Entry{
		{e("a", 5), e("a", 4)}, {e("a", 5), e("b", 5), e("a", 4)}, {e("b", 5), e("a", 4), e("c", 4), e("d", 3), e("a", 2)}, {e("a", greatest), e("b", 0), e("a", least)}, {e("b", 9), e("a", 8), e("a", 7), e("c", 6)}, {e("x", 9), e("y", 8), e("y", 7)},
		{{ID: "a", Title: "x", Updated: 5}, {ID: "a", Title: "y", Updated: 4}},
	} {
		wantFeed(t, api.Feed{Path: []string{"p"}, ID: "f", Entries: entries}, false)
	}
	f := func(id string, path ...string) api.Feed {
		return api.Feed{Path: path, ID: id, Entries: []api.Entry{e("a", 5), e("b", 5), e("f", 4)}}
	}
	for _, feeds := range [][]api.Feed{
		{f("a"), f("b")}, {f("f"), f("g")}, {f("a"), f("b", "p")}, {f("b"), f("a", "p")}, {f("b", "b"), f("p", "f"), f("a", "p")}, {f("a", "a"), f("A", "a", "a"), f("aa", "a", "a")},
	} {
		wantArchive(t, api.Archive{Feeds: feeds}, true)
	}
	for _, feeds := range [][]api.Feed{
		{f("a"), f("a")}, {f("a"), f("a", "p")}, {f("a", "p"), f("a", "q")}, {f("a"), f("b"), f("a", "p")}, {f("a"), f("b", "p"), f("c", "p", "q"), f("d", "q"), f("a", "q", "q")}, {f("b"), f("a", "p"), f("a", "q"), f("c", "r")}, {f("x", "p"), f("x", "p")},
		{{ID: "a", Title: "x"}, {ID: "a", Title: "y"}}, {{ID: "a", Updated: 5}, {Path: []string{"p"}, ID: "a", Updated: 4}},
	} {
		wantArchive(t, api.Archive{Feeds: feeds}, false)
	}
}

// P13.1: feeds in the order of paths and IDs, and in other ones. The times of feeds do not matter.
func TestCheckFeedOrder(t *testing.T) {
	f := func(id string, path ...string) api.Feed { return api.Feed{Path: path, ID: id} }
	for _, feeds := range [][]api.Feed{
		nil, {}, {f("a")}, {f("a"), f("b")}, {f("a"), f("aa"), f("ab"), f("b")}, {f("b"), f("a", "a")}, {f("c", "a"), f("b", "a", "a"), f("a", "b")}, {f("d", "a", "b"), f("c", "a", "b", "c"), f("a", "b")}, {f("b", "a", "z"), f("a", "ab")}, {f("b", "a"), f("a", "é"), f("c", "😀")},
		{{ID: "a", Updated: 4}, {ID: "b", Updated: 5}, {ID: "c", Updated: 3}}, {{ID: "a", Title: "z"}, {ID: "b", Title: "a"}},
	} {
		wantArchive(t, api.Archive{Feeds: feeds}, true)
	}
	for _, feeds := range [][]api.Feed{
		{f("b"), f("a")}, {f("ab"), f("a")}, {f("a", "a"), f("b")}, {f("a", "b"), f("b", "a")}, {f("a", "a", "a"), f("b", "a")}, {f("a", "ab"), f("b", "a", "z")}, {f("c", "a", "b", "c"), f("d", "a", "b")}, {f("b", "p"), f("a", "p")}, {f("a"), f("c"), f("b"), f("d")}, {f("a"), f("b", "q"), f("c", "p")}, {f("a", "é"), f("b", "z")},
		{{ID: "b", Updated: 5}, {ID: "a", Updated: 4}},
	} {
		wantArchive(t, api.Archive{Feeds: feeds}, false)
	}
}

// P13.1: an archive with one fault, for each string and time in it and each fault.
func TestCheckEachFault(t *testing.T) {
	wantArchive(t, sample(), true)
	for _, s := range badStrings() {
		for _, a := range withString(sample(), s) {
			wantArchive(t, a, false)
		}
	}
	for _, n := range badTimes {
		for _, a := range withTime(sample(), n) {
			wantArchive(t, a, false)
		}
	}
	const ids, names = 6 + 12, 7
	wrong := 0
	for _, a := range withString(sample(), "") {
		if !compareArchive(t, a) {
			wrong++
		}
	}
	if wrong != ids+names {
		t.Errorf("%d strings must not be empty; want %d", wrong, ids+names)
	}
}

// P13.1: archives with one other string or time, or with one list in another order.
func TestCheckVariants(t *testing.T) {
	var all []api.Archive
	for _, s := range goodStrings {
		all = append(all, withString(sample(), s)...)
	}
	for _, n := range goodTimes {
		all = append(all, withTime(sample(), n)...)
	}
	all = append(all, rearranged(sample())...)
	valid := 0
	for _, a := range all {
		if compareArchive(t, a) {
			valid++
		}
	}
	if valid < 400 || len(all)-valid < 400 {
		t.Errorf("%d of %d archives are valid", valid, len(all))
	}
}

// lists calls f with all lists of at most n of the elements, which may be repeated.
func lists[T any](elements []T, n int, f func([]T)) {
	var visit func(list []T)
	visit = func(list []T) {
		f(slices.Clone(list))
		if len(list) < n {
			for _, x := range elements {
				visit(append(slices.Clone(list), x))
			}
		}
	}
	visit(nil)
}

// P13.1: all short lists of entries and of feeds.
func TestCheckShortLists(t *testing.T) {
	var entries []api.Entry
	var feeds []api.Feed
	for _, id := range []string{"a", "ab", "b"} {
		for _, n := range []int64{4, 5, least} {
			entries = append(entries, api.Entry{ID: id, Updated: n})
		}
		for _, path := range [][]string{nil, {"a"}, {"a", "a"}, {"ab"}} {
			feeds = append(feeds, api.Feed{Path: path, ID: id, Updated: int64(len(path))})
		}
	}
	entries, feeds = append(entries, api.Entry{ID: "c", Title: " "}), append(feeds, api.Feed{ID: "c", Updated: least - 1})
	valid := 0
	lists(entries, 4, func(list []api.Entry) {
		if compareArchive(t, api.Archive{Feeds: []api.Feed{{ID: "f", Entries: list}}}) {
			valid++
		}
	})
	lists(feeds, 3, func(list []api.Feed) {
		if compareArchive(t, api.Archive{Feeds: list}) {
			valid++
		}
	})
	if valid < 100 {
		t.Errorf("only %d archives are valid", valid)
	}
}

// wantOrder checks the order of two paths, both ways.
func wantOrder(t *testing.T, a, b []string, want int) {
	t.Helper()
	for _, x := range []struct {
		a, b []string
		want int
	}{{a, b, want}, {b, a, -want}, {a, slices.Clone(a), 0}, {b, slices.Clone(b), 0}} {
		if got := model.ComparePaths(x.a, x.b); got != x.want || comparePaths(x.a, x.b) != x.want {
			t.Errorf("ComparePaths(%q, %q) = %d; want %d", x.a, x.b, got, x.want)
		}
		if got := model.CompareFeeds(api.Feed{Path: x.a, ID: "x"}, api.Feed{Path: x.b, ID: "x"}); got != x.want {
			t.Errorf("CompareFeeds with the paths %q and %q = %d; want %d", x.a, x.b, got, x.want)
		}
	}
}

// P13.2: paths are compared name by name.
func TestComparePaths(t *testing.T) {
	for _, c := range []struct{ a, b []string }{
		{nil, []string{"a"}}, {[]string{}, []string{""}}, {[]string{"a"}, []string{"b"}}, {[]string{"a", "b"}, []string{"a", "b", "c"}}, {[]string{"a", "b", "c"}, []string{"b"}}, {[]string{"a", "b"}, []string{"b"}}, {[]string{"a", "z"}, []string{"b"}}, {[]string{"a", "z"}, []string{"ab"}}, {[]string{"a", "b"}, []string{"ab"}}, {[]string{"a"}, []string{"ab"}},
		{[]string{""}, []string{"a"}}, {[]string{""}, []string{"", ""}}, {[]string{"a"}, []string{"a", ""}}, {[]string{"a", ""}, []string{"a", "\x00"}}, {[]string{"", "b"}, []string{"a"}}, {[]string{"A"}, []string{"a"}}, {[]string{"Z"}, []string{"a"}}, {[]string{"10"}, []string{"9"}}, {[]string{"a", "a", "b"}, []string{"a", "b", "a"}}, {[]string{"z"}, []string{"é"}}, {[]string{"\x7F"}, []string{"\x80"}}, {[]string{"\xFE"}, []string{"\xFF"}}, {[]string{"\uFFFD"}, []string{"😀"}}, {[]string{"a/b"}, []string{"a/b/c"}}, {[]string{"a", "c"}, []string{"a b"}}, {[]string{"a\x00"}, []string{"a!"}}, {[]string{"a", "\xFF"}, []string{"a\x00"}},
	} {
		wantOrder(t, c.a, c.b, -1)
	}
	wantOrder(t, nil, nil, 0)
	wantOrder(t, nil, []string{}, 0)
	wantOrder(t, []string{""}, []string{""}, 0)
	wantOrder(t, []string{"a", "b"}, []string{"a", "b"}, 0)
	long := slices.Repeat([]string{"a"}, 1<<16)
	wantOrder(t, long, slices.Clone(long), 0)
	wantOrder(t, long, append(slices.Clone(long), "a"), -1)
	wantOrder(t, append(slices.Clone(long), "a"), append(slices.Clone(long), "b", "a"), -1)
}

// P13.2: the path of a feed comes before its ID, and nothing else matters.
func TestCompareFeeds(t *testing.T) {
	p := func(names ...string) []string { return names }
	for _, c := range []struct {
		a, b api.Feed
		want int
	}{
		{api.Feed{}, api.Feed{}, 0},
		{api.Feed{ID: "a"}, api.Feed{ID: "b"}, -1},
		{api.Feed{ID: "a"}, api.Feed{ID: "ab"}, -1},
		{api.Feed{ID: ""}, api.Feed{ID: "\x00"}, -1},
		{api.Feed{ID: "B"}, api.Feed{ID: "a"}, -1},
		{api.Feed{ID: "10"}, api.Feed{ID: "9"}, -1},
		{api.Feed{ID: "z"}, api.Feed{ID: "é"}, -1},
		{api.Feed{ID: "\uFFFD"}, api.Feed{ID: "😀"}, -1},
		{api.Feed{ID: "z"}, api.Feed{Path: p("a"), ID: "a"}, -1},
		{api.Feed{Path: p("a"), ID: "z"}, api.Feed{Path: p("b"), ID: "a"}, -1},
		{api.Feed{Path: p("a"), ID: "z"}, api.Feed{Path: p("a", "a"), ID: "a"}, -1},
		{api.Feed{Path: p("a", "b"), ID: "a"}, api.Feed{Path: p("a", "b"), ID: "b"}, -1},
		{api.Feed{Path: p("a"), ID: "b"}, api.Feed{Path: p("a", "b"), ID: ""}, -1},
		{api.Feed{ID: "a", Title: "z", Link: "z", Updated: 1}, api.Feed{ID: "b", Title: "a", Link: "a", Updated: 2}, -1},
		{api.Feed{ID: "a", Updated: math.MaxInt64}, api.Feed{ID: "b", Updated: math.MinInt64}, -1},
		{api.Feed{ID: "a", Title: "x"}, api.Feed{ID: "a", Title: "y"}, 0},
		{api.Feed{ID: "a", Link: "x"}, api.Feed{ID: "a"}, 0},
		{api.Feed{ID: "a", Updated: 1}, api.Feed{ID: "a"}, 0},
		{api.Feed{ID: "a", Entries: []api.Entry{{ID: "x"}}}, api.Feed{ID: "a"}, 0},
		{api.Feed{Path: p(), ID: "a"}, api.Feed{ID: "a", Entries: []api.Entry{}}, 0},
		{api.Feed{Path: p("\xFF"), ID: "\xFF"}, api.Feed{Path: p("\xFF"), ID: "\xFF", Title: "x"}, 0},
	} {
		if got, back := model.CompareFeeds(c.a, c.b), model.CompareFeeds(c.b, c.a); got != c.want || back != -c.want || compareFeeds(c.a, c.b) != c.want {
			t.Errorf("CompareFeeds(%s%s) = %d and back %d; want %d", showFeed(c.a), showFeed(c.b), got, back, c.want)
		}
	}
}

// P13.2: the greatest time comes first, and then the ID; nothing else matters.
func TestCompareEntries(t *testing.T) {
	for _, c := range []struct {
		a, b api.Entry
		want int
	}{
		{api.Entry{}, api.Entry{}, 0},
		{api.Entry{Updated: 5}, api.Entry{Updated: 4}, -1},
		{api.Entry{ID: "z", Updated: 5}, api.Entry{ID: "a", Updated: 4}, -1},
		{api.Entry{Updated: 0}, api.Entry{Updated: -1}, -1},
		{api.Entry{Updated: -1}, api.Entry{Updated: -2}, -1},
		{api.Entry{Updated: math.MaxInt64}, api.Entry{Updated: math.MinInt64}, -1},
		{api.Entry{Updated: 0}, api.Entry{Updated: math.MinInt64}, -1},
		{api.Entry{Updated: math.MaxInt64}, api.Entry{Updated: -1}, -1},
		{api.Entry{Updated: math.MaxInt64}, api.Entry{Updated: math.MaxInt64 - 1}, -1},
		{api.Entry{Updated: 1 << 32}, api.Entry{Updated: 0}, -1},
		{api.Entry{Updated: 1<<53 + 1}, api.Entry{Updated: 1 << 53}, -1},
		{api.Entry{ID: "a", Updated: 5}, api.Entry{ID: "b", Updated: 5}, -1},
		{api.Entry{ID: "a"}, api.Entry{ID: "ab"}, -1},
		{api.Entry{ID: ""}, api.Entry{ID: "\x00"}, -1},
		{api.Entry{ID: "B"}, api.Entry{ID: "a"}, -1},
		{api.Entry{ID: "10"}, api.Entry{ID: "9"}, -1},
		{api.Entry{ID: "z"}, api.Entry{ID: "é"}, -1},
		{api.Entry{ID: "\uFFFD"}, api.Entry{ID: "😀"}, -1},
		{api.Entry{ID: "a", Title: "z", Link: "z", Content: "z"}, api.Entry{ID: "b", Title: "a", Link: "a", Content: "a"}, -1},
		{api.Entry{ID: "a", Title: "x"}, api.Entry{ID: "a"}, 0},
		{api.Entry{ID: "a", Link: "x"}, api.Entry{ID: "a", Link: "y"}, 0},
		{api.Entry{ID: "a", Content: "x", Updated: -5}, api.Entry{ID: "a", Updated: -5}, 0},
		{api.Entry{ID: "\xFF", Title: "\xFF"}, api.Entry{ID: "\xFF"}, 0},
	} {
		if got, back := model.CompareEntries(c.a, c.b), model.CompareEntries(c.b, c.a); got != c.want || back != -c.want || compareEntries(c.a, c.b) != c.want {
			t.Errorf("CompareEntries(%s%s) = %d and back %d; want %d", showEntry(c.a), showEntry(c.b), got, back, c.want)
		}
	}
}

// P13.2: each byte with each other one, alone and after the same byte.
func TestCompareBytes(t *testing.T) {
	for i := range 1 << 16 {
		a, b := byte(i>>8), byte(i)
		want := 0
		if a < b {
			want = -1
		} else if a > b {
			want = 1
		}
		for _, before := range []string{"", "x"} {
			s, u := before+string([]byte{a}), before+string([]byte{b})
			if model.ComparePaths([]string{s}, []string{u}) != want || model.ComparePaths([]string{"p", s, "b"}, []string{"p", u, "b"}) != want ||
				model.CompareFeeds(api.Feed{ID: s}, api.Feed{ID: u}) != want || model.CompareEntries(api.Entry{ID: s}, api.Entry{ID: u}) != want {
				t.Fatalf("%q and %q are not compared as %d", s, u, want)
			}
		}
	}
}

// awkward are strings whose orders with quotes and escape sequences and without them differ.
var awkward = []string{"", "a", "a!", "a b", "a\"", "a\\", "a\n", "a\x00", "b", "A", "é", "😀", "\x7F", "\xFF", "a\xC3"}

// entryPool returns entries that differ in one field or more.
func entryPool() []api.Entry {
	var out []api.Entry
	for _, s := range awkward {
		out = append(out, api.Entry{ID: s, Updated: 5}, api.Entry{ID: "a", Title: s, Updated: 5}, api.Entry{ID: "a", Link: s, Updated: 5}, api.Entry{ID: "a", Content: s, Updated: 5})
	}
	for _, n := range []int64{math.MinInt64, least - 1, least, -1, 0, 4, greatest, math.MaxInt64} {
		out = append(out, api.Entry{ID: "a", Updated: n}, api.Entry{ID: "b", Title: "\xFF", Updated: n})
	}
	return out
}

// feedPool returns feeds without entries that differ in one field or more.
func feedPool() []api.Feed {
	var out []api.Feed
	for _, s := range awkward {
		out = append(out, api.Feed{ID: s, Updated: 5}, api.Feed{ID: "a", Title: s, Updated: 5}, api.Feed{ID: "a", Link: s, Updated: 5}, api.Feed{Path: []string{s}, ID: "a", Updated: 5})
	}
	for _, path := range [][]string{{"a", "b"}, {"a", ""}, {"ab"}, {"a,b"}, {"a\",\"b"}, {"a", "\xFF"}, {"b", "a"}, {"", ""}} {
		out = append(out, api.Feed{Path: path, ID: "a", Updated: 5}, api.Feed{Path: path, ID: "b"})
	}
	for _, n := range []int64{math.MinInt64, -1, 4, math.MaxInt64} {
		out = append(out, api.Feed{ID: "a", Updated: n}, api.Feed{ID: "b", Title: "\xFF", Updated: n})
	}
	return out
}

// wantPreorder checks that a comparison of some elements is antisymmetric and transitive, that it agrees with its definition, and that it has -1, 0 and 1 as its results.
func wantPreorder[T any](t *testing.T, pool []T, compare, definition func(T, T) int) {
	t.Helper()
	found := map[int]int{}
	for _, a := range pool {
		for _, b := range pool {
			ab := compare(a, b)
			found[ab]++
			if ab != definition(a, b) || ab != -compare(b, a) {
				t.Fatalf("%+q and %+q: %d, and back %d", any(a), any(b), ab, compare(b, a))
			}
			for _, c := range pool {
				if ab <= 0 && compare(b, c) <= 0 && compare(a, c) > 0 {
					t.Fatalf("not transitive: %+q, %+q, %+q", any(a), any(b), any(c))
				}
				if ab == 0 && compare(a, c) != compare(b, c) {
					t.Fatalf("equal, but not in the same order: %+q, %+q, %+q", any(a), any(b), any(c))
				}
			}
		}
	}
	if len(found) != 3 || found[-1] == 0 || found[-1] != found[1] || found[0] < len(pool) {
		t.Errorf("the results are %v", found)
	}
}

// P13.2, P13.5: the comparisons are total preorders.
func TestPreorders(t *testing.T) {
	var paths [][]string
	lists([]string{"", "a", "ab", "b", "\xFF"}, 3, func(path []string) { paths = append(paths, path) })
	wantPreorder(t, paths, model.ComparePaths, comparePaths)
	wantPreorder(t, feedPool(), model.CompareFeeds, compareFeeds)
	wantPreorder(t, entryPool(), model.CompareEntries, compareEntries)
}

// P13.3: the canonical bytes of entries.
func TestEntryKey(t *testing.T) {
	for _, c := range []struct {
		e    api.Entry
		want string
	}{
		{api.Entry{ID: "x", Updated: 7}, `["x","","","",7]`},
		{api.Entry{}, `["","","","",0]`},
		{api.Entry{ID: "i", Title: "t", Link: "l", Content: "c", Updated: -7}, `["i","t","l","c",-7]`},
		{api.Entry{ID: "é", Title: "\"\\/", Link: "\n\t\r\b\f", Content: "\x00\x1F\x7F\u2028<&>😀"}, "[\"é\",\"\\\"\\\\/\",\"\\n\\t\\r\\b\\f\",\"\\u0000\\u001f\x7F\u2028<&>😀\",0]"},
		{api.Entry{ID: " a ", Title: "  ", Link: "\uFFFE", Content: "\uFFFF"}, "[\" a \",\"  \",\"\uFFFE\",\"\uFFFF\",0]"},
		{api.Entry{ID: "\uFFFD"}, "[\"\uFFFD\",\"\",\"\",\"\",0]"},
		{api.Entry{Updated: math.MinInt64}, `["","","","",-9223372036854775808]`},
		{api.Entry{Updated: math.MaxInt64}, `["","","","",9223372036854775807]`},
		{api.Entry{ID: "\",\""}, `["\",\"","","","",0]`},
	} {
		if got := model.EntryKey(c.e); got != c.want {
			t.Errorf("EntryKey(%s) = %q; want %q", showEntry(c.e), got, c.want)
		}
		compareEntry(t, c.e)
	}
	for _, s := range wrongBytes {
		for _, e := range []api.Entry{{ID: s}, {ID: "a", Title: s}, {ID: "a", Link: s}, {ID: "a", Content: s, Updated: 7}, {ID: s, Title: s, Link: s, Content: s}} {
			if got := model.EntryKey(e); got != "" {
				t.Errorf("EntryKey(%s) = %q", showEntry(e), got)
			}
			compareEntry(t, e)
		}
	}
}

// P13.3: the canonical bytes of feeds, in which their entries are not.
func TestFeedKey(t *testing.T) {
	p := func(names ...string) []string { return names }
	for _, c := range []struct {
		f    api.Feed
		want string
	}{
		{api.Feed{}, `[[],"","","",0]`},
		{api.Feed{Path: p(), ID: "x"}, `[[],"x","","",0]`},
		{api.Feed{Path: p("p", "q"), ID: "i", Title: "t", Link: "l", Updated: -7}, `[["p","q"],"i","t","l",-7]`},
		{api.Feed{Path: p("")}, `[[""],"","","",0]`},
		{api.Feed{Path: p("", "", "a")}, `[["","","a"],"","","",0]`},
		{api.Feed{Path: p("a\",\"b", "[", "]", "\n")}, `[["a\",\"b","[","]","\n"],"","","",0]`},
		{api.Feed{ID: "é", Title: "\"\\/", Link: "\x00\x1F\x7F\u2028<&>😀", Updated: math.MinInt64}, "[[],\"é\",\"\\\"\\\\/\",\"\\u0000\\u001f\x7F\u2028<&>😀\",-9223372036854775808]"},
		{api.Feed{ID: "x", Updated: math.MaxInt64, Entries: []api.Entry{{ID: "e"}}}, `[[],"x","","",9223372036854775807]`},
		{api.Feed{ID: "x", Entries: []api.Entry{{ID: "\xFF", Title: "\xFF"}, {ID: "\xFF"}}}, `[[],"x","","",0]`},
		{api.Feed{Path: slices.Repeat(p("p"), 1000), ID: "x"}, `[["p"` + strings.Repeat(`,"p"`, 999) + `],"x","","",0]`},
	} {
		if got := model.FeedKey(c.f); got != c.want {
			t.Errorf("FeedKey(%s) = %q; want %q", showFeed(c.f), got, c.want)
		}
		compareArchive(t, api.Archive{Feeds: []api.Feed{c.f}})
	}
	for _, s := range wrongBytes {
		for _, f := range []api.Feed{{ID: s}, {ID: "a", Title: s}, {ID: "a", Link: s, Updated: 7}, {Path: p(s), ID: "a"}, {Path: p("p", s), ID: "a"}, {Path: p(s, "p"), ID: "a"}, {Path: p("p", s, "q"), ID: "a", Entries: []api.Entry{{ID: "a"}}}} {
			if got := model.FeedKey(f); got != "" {
				t.Errorf("FeedKey(%s) = %q", showFeed(f), got)
			}
			compareArchive(t, api.Archive{Feeds: []api.Feed{f}})
		}
	}
}

// P13.5: two entries with valid UTF-8 have the same canonical bytes exactly if they are equal, and so have feeds without their entries.
func TestKeysTellApart(t *testing.T) {
	parts := []string{"", "a", "\"", ",", "\",\"", "\\", "\\\"", "\n", "\\n"}
	entries, feeds := map[string]api.Entry{}, map[string]string{}
	lists(parts, 4, func(s []string) {
		if len(s) < 4 {
			return
		}
		for _, n := range []int64{0, 1, -1} {
			e := api.Entry{ID: s[0], Title: s[1], Link: s[2], Content: s[3], Updated: n}
			if other, found := entries[model.EntryKey(e)]; found {
				t.Errorf("%s and %s have the same canonical bytes", showEntry(e), showEntry(other))
			}
			entries[model.EntryKey(e)] = e
		}
		for _, f := range []api.Feed{{Path: s, ID: "a"}, {Path: s[:1], ID: s[1], Title: s[2], Link: s[3]}, {ID: s[0], Title: s[1], Link: s[2], Updated: int64(len(s[3]))}, {Path: s[:2], Title: s[2], Link: s[3], Updated: 9}} {
			if other, found := feeds[model.FeedKey(f)]; found && other != showFeed(f) {
				t.Errorf("%s and %s have the same canonical bytes", showFeed(f), other)
			}
			feeds[model.FeedKey(f)] = showFeed(f)
		}
	})
	for _, a := range entryPool() {
		for _, b := range entryPool() {
			if key := model.EntryKey(a); key != "" && (key == model.EntryKey(b)) != (a == b) {
				t.Errorf("%s and %s: %q", showEntry(a), showEntry(b), key)
			}
		}
	}
	if _, found := entries[""]; found || len(entries) != 3*9*9*9*9 {
		t.Errorf("%d keys", len(entries))
	}
}

// P13.4: the later one of two entries, which is the second one here, in any order.
func TestLaterEntry(t *testing.T) {
	for _, c := range []struct{ first, second api.Entry }{
		{api.Entry{ID: "z", Title: "z", Updated: 4}, api.Entry{ID: "a", Updated: 5}},
		{api.Entry{ID: "z", Updated: -1}, api.Entry{ID: "a", Updated: 0}},
		{api.Entry{ID: "z", Updated: -2}, api.Entry{ID: "a", Updated: -1}},
		{api.Entry{ID: "z", Updated: math.MinInt64}, api.Entry{ID: "a", Updated: math.MaxInt64}},
		{api.Entry{ID: "z", Updated: math.MinInt64}, api.Entry{ID: "a", Updated: 1}},
		{api.Entry{ID: "z", Updated: 0}, api.Entry{ID: "a", Updated: 1 << 32}},
		{api.Entry{ID: "a", Updated: 9}, api.Entry{ID: "a", Updated: 10}},
		{api.Entry{ID: "a", Updated: -9}, api.Entry{ID: "a", Updated: -8}},
		{api.Entry{ID: "a", Title: "x"}, api.Entry{ID: "a", Title: "y"}},
		{api.Entry{ID: "a", Link: "x"}, api.Entry{ID: "a", Link: "y"}},
		{api.Entry{ID: "a", Content: "x"}, api.Entry{ID: "a", Content: "y"}},
		{api.Entry{ID: "a", Title: "z"}, api.Entry{ID: "b", Title: "a"}},
		{api.Entry{ID: "a", Title: "x", Link: "z"}, api.Entry{ID: "a", Title: "y", Link: "a"}},
		{api.Entry{ID: "a", Link: "x", Content: "z"}, api.Entry{ID: "a", Link: "y", Content: "a"}},
		{api.Entry{ID: "a"}, api.Entry{ID: "a", Title: "x"}},
		{api.Entry{ID: "a"}, api.Entry{ID: "aa"}},
		// These differ in the canonical bytes otherwise than in the strings: a quote ends the shorter string, and escape sequences begin with a backslash.
		{api.Entry{ID: "a!"}, api.Entry{ID: "a"}},
		{api.Entry{ID: "a", Title: "a b"}, api.Entry{ID: "a", Title: "a"}},
		{api.Entry{ID: "a", Content: " "}, api.Entry{ID: "a"}},
		{api.Entry{ID: "a", Title: "A"}, api.Entry{ID: "a", Title: "\n"}},
		{api.Entry{ID: "a", Title: "\x01"}, api.Entry{ID: "a", Title: "]"}},
		{api.Entry{ID: "a", Title: "Z"}, api.Entry{ID: "a", Title: "\""}},
		{api.Entry{ID: "a", Title: "\r"}, api.Entry{ID: "a", Title: "\t"}},
		{api.Entry{ID: "a", Title: "\uFFFD"}, api.Entry{ID: "a", Title: "😀"}},
		{api.Entry{ID: "z\xFF", Title: "z"}, api.Entry{ID: "a"}},
		{api.Entry{ID: "z", Content: "\xFF"}, api.Entry{}},
		{api.Entry{ID: "a"}, api.Entry{ID: "\xFF", Updated: 1}},
	} {
		for _, got := range []api.Entry{model.LaterEntry(c.first, c.second), model.LaterEntry(c.second, c.first), model.LaterEntry(c.second, c.second), laterEntry(c.first, c.second)} {
			if got != c.second {
				t.Errorf("%sis later than %s", showEntry(got), showEntry(c.second))
			}
		}
	}
	// Of entries with the same canonical bytes, which are empty here, the first one is the later one.
	a, b := api.Entry{ID: "a", Title: "\xFF", Updated: 5}, api.Entry{ID: "\xFE", Updated: 5}
	if model.LaterEntry(a, b) != a || model.LaterEntry(b, a) != b {
		t.Error("the first one is not the later one")
	}
}

// P13.4: the later one of two feeds, which is the second one here, in any order.
func TestLaterFeed(t *testing.T) {
	p := func(names ...string) []string { return names }
	for _, c := range []struct{ first, second api.Feed }{
		{api.Feed{Path: p("z"), ID: "z", Title: "z", Updated: 4}, api.Feed{ID: "a", Updated: 5}},
		{api.Feed{Updated: -1}, api.Feed{Updated: 0}},
		{api.Feed{Updated: math.MinInt64}, api.Feed{Updated: math.MaxInt64}},
		{api.Feed{Updated: 9}, api.Feed{Updated: 10}},
		{api.Feed{ID: "a", Title: "x"}, api.Feed{ID: "a", Title: "y"}},
		{api.Feed{ID: "a", Link: "x"}, api.Feed{ID: "a", Link: "y"}},
		{api.Feed{ID: "a", Title: "z"}, api.Feed{ID: "b", Title: "a"}},
		{api.Feed{ID: "a", Title: "x", Link: "z"}, api.Feed{ID: "a", Title: "y", Link: "a"}},
		{api.Feed{Path: p("a"), ID: "z"}, api.Feed{Path: p("b"), ID: "a"}},
		// In the canonical bytes, the bracket that ends a path is greater than the quote or comma that goes on with it.
		{api.Feed{Path: p("a"), ID: "a"}, api.Feed{ID: "a"}},
		{api.Feed{Path: p("a", "b"), ID: "z"}, api.Feed{Path: p("a"), ID: "a"}},
		{api.Feed{Path: p("a", "z"), ID: "a"}, api.Feed{Path: p("ab"), ID: "a"}},
		{api.Feed{Path: p("a!"), ID: "a"}, api.Feed{Path: p("a", "b"), ID: "a"}},
		{api.Feed{Path: p(""), ID: "a"}, api.Feed{Path: p("a"), ID: "a"}},
		{api.Feed{ID: "a", Title: "a b"}, api.Feed{ID: "a", Title: "a"}},
		{api.Feed{ID: "a", Title: "A"}, api.Feed{ID: "a", Title: "\n"}},
		{api.Feed{Path: p("\xFF"), ID: "z"}, api.Feed{ID: "a"}},
		{api.Feed{ID: "a", Entries: []api.Entry{{ID: "z", Updated: 9}}}, api.Feed{ID: "b", Entries: []api.Entry{{ID: "a", Updated: 4}}}},
		{api.Feed{ID: "a", Updated: 4, Entries: []api.Entry{{ID: "a"}, {ID: "b"}}}, api.Feed{ID: "a", Updated: 5}},
		{api.Feed{ID: "a", Updated: 4}, api.Feed{ID: "a", Updated: 5, Entries: []api.Entry{{ID: "\xFF"}}}},
	} {
		want := c.second
		want.Entries = nil
		for _, got := range []api.Feed{model.LaterFeed(c.first, c.second), model.LaterFeed(c.second, c.first), model.LaterFeed(c.second, c.second), laterFeed(c.first, c.second)} {
			if showFeed(got) != showFeed(want) {
				t.Errorf("%sis later than %s", showFeed(got), showFeed(want))
			}
		}
	}
	// Of feeds with the same canonical bytes, which are empty here, the first one is the later one.
	a, b := api.Feed{ID: "a", Title: "\xFF", Updated: 5}, api.Feed{Path: p("\xFE"), ID: "b", Updated: 5}
	if model.LaterFeed(a, b).ID != "a" || model.LaterFeed(b, a).ID != "b" {
		t.Error("the first one is not the later one")
	}
}

// wantLaws checks that a choice of the later one of some elements is associative, idempotent, and commutative for those with canonical bytes, and that it agrees with its definition. Elements are equal if they look the same.
func wantLaws[T any](t *testing.T, pool []T, later, definition func(T, T) T, key, look func(T) string) {
	t.Helper()
	// The choices are numbers of elements, so that three elements need no further calls.
	number := map[string]int{}
	for i, a := range pool {
		if _, found := number[look(a)]; !found {
			number[look(a)] = i
		}
	}
	chosen := make([][]int, len(pool))
	for i, a := range pool {
		for _, b := range pool {
			c := later(a, b)
			n, found := number[look(c)]
			if !found || look(c) != look(definition(a, b)) {
				t.Fatalf("the later one of %s and %s is %s", look(a), look(b), look(c))
			}
			chosen[i] = append(chosen[i], n)
		}
	}
	for i, a := range pool {
		if chosen[i][i] != number[look(a)] {
			t.Errorf("not idempotent: %s", look(a))
		}
		for j, b := range pool {
			if key(a) != "" && key(b) != "" && chosen[i][j] != chosen[j][i] {
				t.Errorf("not commutative: %s and %s", look(a), look(b))
			}
			for k, c := range pool {
				if chosen[chosen[i][j]][k] != chosen[i][chosen[j][k]] {
					t.Fatalf("not associative: %s, %s and %s", look(a), look(b), look(c))
				}
			}
		}
	}
}

// P13.4, P13.5: the laws of LaterEntry and of LaterFeed.
func TestLaws(t *testing.T) {
	wantLaws(t, entryPool(), model.LaterEntry, laterEntry, model.EntryKey, showEntry)
	wantLaws(t, feedPool(), model.LaterFeed, laterFeed, model.FeedKey, showFeed)
}

// P13.4: the path of LaterFeed is newly allocated, and there are no entries.
func TestLaterFeedIsNew(t *testing.T) {
	for _, names := range [][]string{nil, {}, {"p"}, {"p", "q"}, slices.Repeat([]string{"p"}, 100)} {
		for _, times := range [][2]int64{{4, 5}, {5, 4}, {5, 5}} {
			a := api.Feed{Path: append(make([]string, 0, 200), names...), ID: "a", Updated: times[0], Entries: []api.Entry{{ID: "e"}}}
			b := api.Feed{Path: append(make([]string, 0, 200), names...), ID: "b", Updated: times[1], Entries: []api.Entry{{ID: "f"}, {ID: "g"}}}
			before := showFeed(a) + showFeed(b)
			f, again, same := model.LaterFeed(a, b), model.LaterFeed(a, b), model.LaterFeed(b, b)
			if !slices.Equal(f.Path, names) || len(f.Entries) != 0 || len(same.Entries) != 0 {
				t.Errorf("LaterFeed(%s) = %s", before, showFeed(f))
			}
			for i := range f.Path {
				f.Path[i] = "changed"
				same.Path[i] = "changed"
			}
			_, _ = append(f.Path, "more"), append(same.Path, "more")
			if showFeed(a)+showFeed(b) != before || a.Path[:len(names)+1][len(names)] != "" || b.Path[:len(names)+1][len(names)] != "" {
				t.Errorf("%s has the same path as LaterFeed of it", before)
			}
			if !slices.Equal(again.Path, names) {
				t.Errorf("the results of two calls have the same path")
			}
			for i := range names {
				a.Path[i], b.Path[i] = "other", "other"
			}
			if !slices.Equal(again.Path, names) || slices.Contains(f.Path, "other") {
				t.Errorf("LaterFeed of %s has its path", before)
			}
		}
	}
}

// P13.4: archives that differ in one field, in one element, or in an order, are not equal.
func TestEqual(t *testing.T) {
	all := []api.Archive{{}, {Feeds: []api.Feed{{}}}, {Feeds: []api.Feed{{}, {}}}, {Feeds: []api.Feed{{Path: []string{""}}}}, {Feeds: []api.Feed{{Entries: []api.Entry{{}}}}}, {Feeds: []api.Feed{{Entries: []api.Entry{{}, {}}}}}, {Feeds: []api.Feed{{Entries: []api.Entry{{}}}, {}}}, {Feeds: []api.Feed{{}, {Entries: []api.Entry{{}}}}}, sample()}
	for _, s := range []string{"new", "", "t ", "\xFF", "\uFFFD", "\xFE", "T"} {
		all = append(all, withString(sample(), s)...)
	}
	for _, n := range []int64{-77, 1 << 32, math.MinInt64, 3 + 1<<32} {
		all = append(all, withTime(sample(), n)...)
	}
	all = append(all, rearranged(sample())...)
	different := 0
	shown := make([]string, len(all))
	for i, a := range all {
		shown[i] = show(a)
	}
	for i, a := range all {
		for j, b := range all {
			want := shown[i] == shown[j]
			if model.Equal(a, b) != want {
				t.Errorf("Equal is %v:\n%s%s", !want, shown[i], shown[j])
			}
			if !want {
				different++
			}
		}
		if show(a) != shown[i] {
			t.Errorf("%s became %s", shown[i], show(a))
		}
	}
	if different < len(all)*(len(all)-1)*9/10 {
		t.Errorf("only %d of %d pairs are different", different, len(all)*len(all))
	}
}

// P13.4: nothing else than the contents matters for Equal, and each field does.
func TestEqualFields(t *testing.T) {
	feed := func(f api.Feed) api.Archive { return api.Archive{Feeds: []api.Feed{f}} }
	entry := func(e ...api.Entry) api.Archive { return feed(api.Feed{ID: "f", Entries: e}) }
	for i, c := range []struct {
		a, b api.Archive
		want bool
	}{
		{api.Archive{}, api.Archive{Feeds: []api.Feed{}}, true},
		{feed(api.Feed{}), feed(api.Feed{Path: []string{}, Entries: []api.Entry{}}), true},
		{feed(api.Feed{Path: []string{"a"}}), feed(api.Feed{Path: append(make([]string, 0, 9), "a")}), true},
		{api.Archive{}, feed(api.Feed{}), false},
		{feed(api.Feed{ID: "a"}), feed(api.Feed{ID: "b"}), false},
		{feed(api.Feed{Title: "a"}), feed(api.Feed{Title: "b"}), false},
		{feed(api.Feed{Link: "a"}), feed(api.Feed{Link: "b"}), false},
		{feed(api.Feed{Updated: 1}), feed(api.Feed{Updated: 2}), false},
		{feed(api.Feed{Updated: 1}), feed(api.Feed{Updated: -1}), false},
		{feed(api.Feed{Title: "a"}), feed(api.Feed{Link: "a"}), false},
		{feed(api.Feed{Path: []string{"a", "b"}}), feed(api.Feed{Path: []string{"b", "a"}}), false},
		{feed(api.Feed{Path: []string{"a"}}), feed(api.Feed{Path: []string{"a", "b"}}), false},
		{feed(api.Feed{Path: []string{"ab"}}), feed(api.Feed{Path: []string{"a", "b"}}), false},
		{feed(api.Feed{Path: []string{""}}), feed(api.Feed{}), false},
		{entry(api.Entry{ID: "a"}), entry(api.Entry{ID: "a"}), true},
		{entry(api.Entry{ID: "a"}), entry(api.Entry{ID: "b"}), false},
		{entry(api.Entry{Title: "a"}), entry(api.Entry{Title: "b"}), false},
		{entry(api.Entry{Link: "a"}), entry(api.Entry{Link: "b"}), false},
		{entry(api.Entry{Content: "a"}), entry(api.Entry{Content: "b"}), false},
		{entry(api.Entry{Updated: 1}), entry(api.Entry{Updated: 2}), false},
		{entry(api.Entry{ID: "a"}, api.Entry{ID: "b"}), entry(api.Entry{ID: "b"}, api.Entry{ID: "a"}), false},
		{entry(api.Entry{ID: "a"}), entry(api.Entry{ID: "a"}, api.Entry{ID: "a"}), false},
		{entry(api.Entry{Title: "\xFF"}), entry(api.Entry{Title: "\xFE"}), false},
		{entry(api.Entry{Title: "\xFF"}), entry(api.Entry{Title: "\xFF"}), true},
		{entry(api.Entry{Title: "\u00e9"}), entry(api.Entry{Title: "e\u0301"}), false},
	} {
		if model.Equal(c.a, c.b) != c.want || model.Equal(c.b, c.a) != c.want {
			t.Errorf("%d: want %v", i, c.want)
		}
	}
}

// drawn returns a valid archive, with its feeds and entries in the order of the definition.
func drawn(r *rand.Rand) api.Archive {
	draw := func() string { return goodStrings[r.IntN(len(goodStrings))] }
	var a api.Archive
	for i := range r.IntN(6) {
		f := api.Feed{ID: draw() + strconv.Itoa(i), Title: draw(), Link: draw(), Updated: int64(r.IntN(3))}
		for range r.IntN(3) {
			f.Path = append(f.Path, draw())
		}
		for j := range r.IntN(6) {
			f.Entries = append(f.Entries, api.Entry{ID: draw() + strconv.Itoa(j), Title: draw(), Link: draw(), Content: draw(), Updated: int64(r.IntN(3))})
		}
		slices.SortFunc(f.Entries, compareEntries)
		a.Feeds = append(a.Feeds, f)
	}
	slices.SortFunc(a.Feeds, compareFeeds)
	return a
}

// P13.1 to P13.4: drawn archives, and the same ones with a change.
func TestDrawnArchives(t *testing.T) {
	r := rand.New(rand.NewPCG(13, 1))
	last := api.Archive{}
	for range 100 {
		a := drawn(r)
		if !compareArchive(t, a) {
			t.Fatalf("%s is not valid", show(a))
		}
		if model.Equal(a, last) != (show(a) == show(last)) {
			t.Errorf("%s and %s", show(a), show(last))
		}
		bad := badStrings()
		for _, c := range withString(a, bad[r.IntN(len(bad))]) {
			wantArchive(t, c, false)
		}
		for _, c := range append(rearranged(a), withString(a, goodStrings[r.IntN(len(goodStrings))])...) {
			compareArchive(t, c)
			if model.Equal(a, c) != (show(a) == show(c)) {
				t.Errorf("%s and %s", show(a), show(c))
			}
		}
		last = a
	}
}

// roomy returns a copy of an archive whose lists go on with other elements behind their ends.
func roomy(a api.Archive) api.Archive {
	a = clone(a)
	for i := range a.Feeds {
		f := &a.Feeds[i]
		f.Path = append(f.Path, "\xFF", "")[:len(f.Path)]
		f.Entries = append(f.Entries, api.Entry{ID: "\xFF"}, api.Entry{})[:len(f.Entries)]
	}
	a.Feeds = append(a.Feeds, api.Feed{ID: "\xFF"}, api.Feed{})[:len(a.Feeds)]
	return a
}

// untouched reports whether what is behind the ends of the lists is as it was.
func untouched(a api.Archive) bool {
	ok := showFeed(a.Feeds[:len(a.Feeds)+1][len(a.Feeds)]) == showFeed(api.Feed{ID: "\xFF"})
	for _, f := range a.Feeds {
		ok = ok && f.Path[:len(f.Path)+1][len(f.Path)] == "\xFF" && f.Entries[:len(f.Entries)+1][len(f.Entries)] == api.Entry{ID: "\xFF"}
	}
	return ok
}

// Rule 4: no function changes its arguments, and what is behind the end of a list makes no difference.
func TestArguments(t *testing.T) {
	a, b := roomy(sample()), roomy(sample())
	before := show(a)
	wantArchive(t, a, true)
	if !model.Equal(a, sample()) || !model.Equal(a, b) {
		t.Error("what is behind the ends is compared")
	}
	for i, f := range a.Feeds {
		for j, g := range b.Feeds {
			if got, want := model.ComparePaths(f.Path, g.Path), comparePaths(f.Path, g.Path); got != want {
				t.Errorf("ComparePaths(%q, %q) = %d", f.Path, g.Path, got)
			}
			if got, want := model.CompareFeeds(f, g), compareFeeds(f, g); got != want || want == 0 && i != j {
				t.Errorf("CompareFeeds(%s%s) = %d", showFeed(f), showFeed(g), got)
			}
			if got := model.LaterFeed(f, g); showFeed(got) != showFeed(laterFeed(f, g)) {
				t.Errorf("LaterFeed(%s%s) = %s", showFeed(f), showFeed(g), showFeed(got))
			}
		}
	}
	if show(a) != before || show(b) != before || !untouched(a) || !untouched(b) {
		t.Errorf("%s became %s and %s", before, show(a), show(b))
	}
	list := []string{"a", "b", "c"}
	if model.ComparePaths(list[:1], list[:2]) != -1 || model.ComparePaths(list[:0], list[2:2]) != 0 || model.FeedKey(api.Feed{Path: list[:1]}) != `[["a"],"","","",0]` {
		t.Error("parts of a list")
	}
}

// P1: archives with very many feeds and entries, where comparing each ID with each other one would take too long.
func TestManyElements(t *testing.T) {
	const count = 1 << 18
	var entries []api.Entry
	var feeds []api.Feed
	for i := range count {
		id := strconv.Itoa(count + i)
		entries = append(entries, api.Entry{ID: id, Updated: int64(-i / 2)})
		feeds = append(feeds, api.Feed{Path: []string{"p", id}, ID: strconv.Itoa(2*count - i)})
	}
	many := api.Archive{Feeds: feeds}
	one := api.Feed{ID: "f", Entries: entries}
	if e := model.CheckFeed(one); e != api.OK {
		t.Errorf("many entries: %v", e)
	}
	if e := model.Check(many); e != api.OK {
		t.Errorf("many feeds: %v", e)
	}
	if !model.Equal(many, clone(many)) || len(model.LaterFeed(one, one).Entries) != 0 {
		t.Error("many feeds are not equal to themselves")
	}
	for _, i := range []int{0, 1, 777, count - 1} {
		again := append(slices.Clone(entries), api.Entry{ID: entries[i].ID, Updated: -count})
		if e := model.CheckFeed(api.Feed{ID: "f", Entries: again}); e != api.ErrInvalid {
			t.Errorf("the entry %d is there twice: %v", i, e)
		}
		c := append(slices.Clone(feeds), api.Feed{Path: []string{"q"}, ID: feeds[i].ID})
		if e := model.Check(api.Archive{Feeds: c}); e != api.ErrInvalid {
			t.Errorf("the feed %d is there twice: %v", i, e)
		}
		if model.Equal(many, api.Archive{Feeds: append(slices.Clone(feeds[:i]), feeds[i+1:]...)}) {
			t.Errorf("the feed %d makes no difference", i)
		}
	}
}

// P1: long strings.
func TestLongStrings(t *testing.T) {
	const count = 1 << 20
	for part, want := range map[string]string{"x": "x", "é": "é", "\"": `\"`, "😀": "😀"} {
		s, literal := strings.Repeat(part, count), strings.Repeat(want, count)
		a, b := api.Entry{ID: "i", Content: s + "a"}, api.Entry{ID: "i", Content: s + "b"}
		if model.CheckEntry(a) != api.OK || model.LaterEntry(a, b) != b || model.LaterEntry(b, a) != b || model.EntryKey(a) != `["i","","","`+literal+`a",0]` {
			t.Errorf("a long content of %q", part)
		}
		f, g := api.Feed{Path: []string{s}, ID: s + "a"}, api.Feed{Path: []string{s}, ID: s + "b"}
		if model.Check(api.Archive{Feeds: []api.Feed{f, g}}) != api.OK || model.CompareFeeds(f, g) != -1 || model.LaterFeed(g, f).ID != g.ID || model.FeedKey(f) != `[["`+literal+`"],"`+literal+`a","","",0]` {
			t.Errorf("a long path and ID of %q", part)
		}
		for _, wrong := range []string{s + "\xFF", "\x80" + s} {
			if e := (api.Entry{ID: wrong}); model.CheckEntry(e) != api.ErrInvalid || model.EntryKey(e) != "" {
				t.Errorf("a wrong long ID of %q", part)
			}
		}
	}
}

// P1, P2: calls at the same time do not influence each other.
func TestConcurrentCalls(t *testing.T) {
	archives := append(rearranged(sample()), sample(), api.Archive{})
	entries, feeds := entryPool(), feedPool()
	var wg sync.WaitGroup
	for range 4 {
		wg.Go(func() {
			for _, a := range archives {
				compareArchive(t, a)
			}
			for i, a := range entries {
				b := entries[len(entries)-1-i]
				if model.LaterEntry(a, b) != laterEntry(a, b) || model.CompareEntries(a, b) != compareEntries(a, b) {
					t.Errorf("%s and %s", showEntry(a), showEntry(b))
				}
			}
			for i, a := range feeds {
				b := feeds[len(feeds)-1-i]
				if showFeed(model.LaterFeed(a, b)) != showFeed(laterFeed(a, b)) || model.CompareFeeds(a, b) != compareFeeds(a, b) {
					t.Errorf("%s and %s", showFeed(a), showFeed(b))
				}
			}
		})
	}
	wg.Wait()
}

// FuzzModel checks the promises on archives of arbitrary strings and times.
func FuzzModel(f *testing.F) {
	for i, s := range slices.Concat(goodStrings, badStrings()) {
		f.Add(s, "a", "b", "", int64(i), int64(i%3))
	}
	f.Add("a", "b", "c", "d", int64(least), int64(greatest))
	f.Fuzz(func(t *testing.T, s, u, v, w string, m, n int64) {
		entries := []api.Entry{{ID: s, Title: u, Link: v, Content: w, Updated: m}, {ID: u, Title: v, Link: w, Content: s, Updated: n}, {ID: s, Title: u, Link: v, Content: u, Updated: m}}
		feeds := []api.Feed{{Path: []string{s, u}, ID: v, Title: w, Updated: m, Entries: entries[:2]}, {Path: []string{s, v}, ID: w, Link: u, Updated: n, Entries: entries}, {Path: []string{s}, ID: u, Updated: m}}
		compareArchive(t, api.Archive{Feeds: feeds})
		compareArchive(t, api.Archive{Feeds: feeds[2:]})
		for _, a := range entries {
			for _, b := range entries {
				if model.LaterEntry(a, b) != laterEntry(a, b) || model.CompareEntries(a, b) != compareEntries(a, b) {
					t.Errorf("%s and %s", showEntry(a), showEntry(b))
				}
				if key := model.EntryKey(a); key != "" && (key == model.EntryKey(b)) != (a == b) {
					t.Errorf("%s and %s: %q", showEntry(a), showEntry(b), key)
				}
			}
		}
		for _, a := range feeds {
			for _, b := range feeds {
				if showFeed(model.LaterFeed(a, b)) != showFeed(laterFeed(a, b)) || model.CompareFeeds(a, b) != compareFeeds(a, b) || model.ComparePaths(a.Path, b.Path) != comparePaths(a.Path, b.Path) {
					t.Errorf("%s and %s", showFeed(a), showFeed(b))
				}
				if x, y := (api.Archive{Feeds: []api.Feed{a}}), (api.Archive{Feeds: []api.Feed{b}}); model.Equal(x, y) != (show(x) == show(y)) {
					t.Errorf("Equal of %s and %s", showFeed(a), showFeed(b))
				}
			}
		}
	})
}
