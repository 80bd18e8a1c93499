package normalize_test

import (
	"math"
	"math/rand/v2"
	"slices"
	"strconv"
	"strings"
	"sync"
	"testing"

	"feedvault/api"
	"feedvault/model"
	"feedvault/normalize"
)

// goodStrings are valid and not empty. The others are not collapsed, have runes that are no XML characters, or are not valid UTF-8.
var (
	goodStrings  = []string{"a", "A", "ab", "a b", "a b c", "-1", "0", "\"", "\\", "\\n", "[]", ",", "</a>", "&", "&#32;", "\x7F", "\u0080", "\u0085", "\u00A0", "\u00A0\u00A0", "é", "\u07FF", "\u0800", "€", "\u2003 \u2003", "\u2028", "\uD7FF", "\uE000", "\uFDD0", "\uFEFF", "\uFFFD", "\U00010000", "\U0001FFFE", "😀", "\U0010FFFF", "aé€😀", "e\u0301", strings.Repeat("x ", 500) + "y"}
	notCollapsed = []struct{ s, want string }{
		{" ", ""}, {"  ", ""}, {"\t", ""}, {"\n", ""}, {"\r", ""}, {" \t\r\n ", ""}, {strings.Repeat(" ", 1000), ""},
		{" a", "a"}, {"a ", "a"}, {"\ta", "a"}, {"a\n", "a"}, {"\ra", "a"}, {" a ", "a"}, {"\r\n\ta\r\n\t", "a"},
		{"a  b", "a b"}, {"a\tb", "a b"}, {"a\nb", "a b"}, {"a\rb", "a b"}, {"a \tb", "a b"}, {"a\r\nb", "a b"}, {"\na  b\t", "a b"}, {"a b\tc", "a b c"}, {" a" + strings.Repeat("\n", 1000) + "b", "a b"},
		{" é", "é"}, {"€\t", "€"}, {"😀 ", "😀"}, {"é\n€\r😀", "é € 😀"}, {" \u00A0 ", "\u00A0"}, {"\u0085\n", "\u0085"}, {"\t\u2028\u2029", "\u2028\u2029"}, {" \uFEFFa", "\uFEFFa"}, {"\uFFFD\t\uFFFD", "\uFFFD \uFFFD"},
	}
	wrongChars = []string{"\x00", "\x01", "\b", "\v", "\f", "\x0E", "\x1F", "a\x00", "\x1Fa", "a\x0Bb", " \x0B ", "\f", "\uFFFE", "\uFFFF", "a\uFFFEb", "é\uFFFF", "\x00\xFF", "\t\x01\xFF"}
	wrongBytes = []string{"\xFF", "\xFE", "\x80", "\xBF", "\xC3", "\xE9", "\xE2\x82", "\xF0\x9F\x98", "\xC0\x80", "\xC1\xBF", "\xE0\x80\x80", "\xE0\x9F\xBF", "\xED\xA0\x80", "\xED\xBF\xBF", "\xED\xA0\xBD\xED\xB8\x80", "\xF0\x80\x80\x80", "\xF4\x90\x80\x80", "\xF8\x88\x80\x80\x80", "a\xFF", "\xC3a", "a \xE2\x82 b", " \xFF ", "\xFF\x00", "\xA0", "\x85"}
)

// goodTimes are within the limits, and badTimes are not.
var (
	goodTimes = []int64{least, least + 1, -1 << 32, -1 << 31, -7, -1, 0, 1, 7, 1 << 31, 1 << 32, greatest - 1, greatest}
	badTimes  = []int64{least - 1, greatest + 1, math.MinInt64, math.MinInt64 + 1, math.MaxInt64 - 1, math.MaxInt64, -1 << 40, 1 << 40, math.MinInt64 + greatest}
)

// sample returns a valid archive with feeds with no, one and several names and entries.
func sample() api.Archive {
	several := []api.Entry{{ID: "c", Title: "t", Link: "l", Content: "a b", Updated: 9}, {ID: "d", Updated: 9}, {ID: "a", Title: "é", Content: "😀", Updated: 4}, {ID: "b", Link: "€", Updated: least}}
	return api.Archive{Feeds: clone(
		api.Feed{ID: "m", Title: "t", Link: "l", Updated: 3},
		api.Feed{ID: "n", Updated: greatest, Entries: []api.Entry{{ID: "a", Content: "x"}}},
		api.Feed{Path: []string{"p"}, ID: "b", Updated: least, Entries: several},
		api.Feed{Path: []string{"p", "q"}, ID: "a", Title: "x", Entries: several},
		api.Feed{Path: []string{"p", "q", "p"}, ID: "c", Entries: several[1:]},
		api.Feed{Path: []string{"q r"}, ID: "é", Link: "x", Updated: 3},
	)}
}

// wantEntry checks the result of Entry, which is the zero value if there is an error.
func wantEntry(t *testing.T, e, want api.Entry, wantErr api.Errno) {
	t.Helper()
	if got, x := normalize.Entry(e); got != want || x != wantErr {
		t.Errorf("Entry(%.1000s) = %.1000s, %v; want %.1000s, %v", showEntry(e), showEntry(got), x, showEntry(want), wantErr)
	}
}

// wantFeed checks the result of Feed, which is the zero value if there is an error.
func wantFeed(t *testing.T, f, want api.Feed, wantErr api.Errno) {
	t.Helper()
	before := showFeeds(f)
	if got, x := normalize.Feed(f); showFeeds(got) != showFeeds(want) || x != wantErr {
		t.Errorf("Feed(%.1000s) = %.1000s, %v; want %.1000s, %v", before, showFeeds(got), x, showFeeds(want), wantErr)
	}
	if showFeeds(f) != before {
		t.Errorf("Feed(%.1000s) changed its argument", before)
	}
}

// wantArchive checks the result of Archive, which is the zero value if there is an error.
func wantArchive(t *testing.T, feeds []api.Feed, want api.Archive, wantErr api.Errno) {
	t.Helper()
	before := showFeeds(feeds...)
	if got, x := normalize.Archive(feeds...); show(got) != show(want) || x != wantErr {
		t.Errorf("Archive(%.1000s) = %.1000s, %v; want %.1000s, %v", before, show(got), x, show(want), wantErr)
	}
	if showFeeds(feeds...) != before {
		t.Errorf("Archive(%.1000s) changed its arguments", before)
	}
}

// compareEntry compares the result of Entry with its definition, which is valid, and is not changed by normalizing it.
func compareEntry(t *testing.T, e api.Entry) {
	t.Helper()
	want, x := wantedEntry(e)
	wantEntry(t, e, want, x)
	if x == api.OK {
		wantEntry(t, want, want, api.OK)
		if model.CheckEntry(want) != api.OK {
			t.Errorf("%s is not valid", showEntry(want))
		}
	}
}

// compareFeed compares the result of Feed with its definition, which is valid, and is not changed by normalizing it. It reports whether there was no error.
func compareFeed(t *testing.T, f api.Feed) bool {
	t.Helper()
	want, x := wantedFeed(f)
	wantFeed(t, f, want, x)
	if x == api.OK {
		wantFeed(t, want, want, api.OK)
		if model.CheckFeed(want) != api.OK {
			t.Errorf("%s is not valid", showFeeds(want))
		}
	}
	return x == api.OK
}

// compareArchive compares the result of Archive with its definition, which is valid, and is not changed by normalizing its feeds. It returns the result.
func compareArchive(t *testing.T, feeds ...api.Feed) (api.Archive, api.Errno) {
	t.Helper()
	want, x := wantedArchive(feeds...)
	wantArchive(t, feeds, want, x)
	if x == api.OK {
		wantArchive(t, want.Feeds, want, api.OK)
		if model.Check(want) != api.OK {
			t.Errorf("%s is not valid", show(want))
		}
	}
	return want, x
}

// P14.1: the examples, and what is collapsed.
func TestEntry(t *testing.T) {
	wantEntry(t, api.Entry{ID: " x "}, api.Entry{ID: "x"}, 0)
	wantEntry(t, api.Entry{ID: " a\tb ", Title: "\n", Link: "l\r", Content: "x  y\r\nz", Updated: 5}, api.Entry{ID: "a b", Link: "l", Content: "x y z", Updated: 5}, 0)
	wantEntry(t, api.Entry{ID: "x", Updated: -7}, api.Entry{ID: "x", Updated: -7}, 0)
	for _, e := range []api.Entry{{}, {Title: "t", Link: "l", Content: "c", Updated: 5}, {ID: " \t\r\n"}, {ID: " ", Updated: greatest + 1}, {Updated: least - 1}} {
		wantEntry(t, e, api.Entry{}, 19)
	}
	wantEntry(t, api.Entry{ID: "\u00A0"}, api.Entry{ID: "\u00A0"}, 0)
	wantEntry(t, api.Entry{ID: "x", Updated: greatest + 1}, api.Entry{}, 3)
	wantEntry(t, api.Entry{ID: "\x00", Title: "\xFF"}, api.Entry{}, 6)
	wantEntry(t, api.Entry{Title: "\xFF"}, api.Entry{}, 5)
	wantEntry(t, api.Entry{ID: " ", Content: "\xFF", Updated: greatest + 1}, api.Entry{}, 5)
}

// eachString calls f with some strings, with their collapsed form and with the error of text.Check for them.
func eachString(f func(s, want string, x api.Errno)) {
	f("", "", 0)
	for _, s := range goodStrings {
		f(s, s, 0)
	}
	for _, c := range notCollapsed {
		f(c.s, c.want, 0)
	}
	for _, s := range wrongChars {
		f(s, "", 6)
	}
	for _, s := range wrongBytes {
		f(s, "", 5)
	}
}

// P14.1: each string of an entry.
func TestEntryStrings(t *testing.T) {
	eachString(func(s, want string, x api.Errno) {
		cases := []struct{ e, want api.Entry }{
			{api.Entry{ID: "a", Title: s}, api.Entry{ID: "a", Title: want}},
			{api.Entry{ID: "a", Link: s, Updated: 7}, api.Entry{ID: "a", Link: want, Updated: 7}},
			{api.Entry{ID: "a", Content: s}, api.Entry{ID: "a", Content: want}},
			{api.Entry{ID: "a", Title: s, Link: s, Content: s}, api.Entry{ID: "a", Title: want, Link: want, Content: want}},
		}
		for _, c := range cases {
			if x != 0 {
				c.want = api.Entry{}
			}
			wantEntry(t, c.e, c.want, x)
			compareEntry(t, c.e)
		}
		wanted := api.Entry{ID: want, Title: "t", Link: "l", Content: "c", Updated: 7}
		if want == "" && x == 0 {
			x = 19
		}
		if x != 0 {
			wanted = api.Entry{}
		}
		wantEntry(t, api.Entry{ID: s, Title: "t", Link: "l", Content: "c", Updated: 7}, wanted, x)
		compareEntry(t, api.Entry{ID: s})
	})
}

// P14.2: each string of a feed, of its path, and of its entries.
func TestFeedStrings(t *testing.T) {
	eachString(func(s, want string, x api.Errno) {
		for _, c := range []struct{ f, want api.Feed }{
			{api.Feed{ID: "a", Title: s}, api.Feed{ID: "a", Title: want}},
			{api.Feed{ID: "a", Link: s, Updated: 7}, api.Feed{ID: "a", Link: want, Updated: 7}},
			{api.Feed{Path: []string{"p"}, ID: "a", Entries: []api.Entry{{ID: "b", Content: s}}}, api.Feed{Path: []string{"p"}, ID: "a", Entries: []api.Entry{{ID: "b", Content: want}}}},
		} {
			if x != 0 {
				c.want = api.Feed{}
			}
			wantFeed(t, c.f, c.want, x)
			compareFeed(t, c.f)
		}
		if want == "" && x == 0 {
			x = 19
		}
		for _, c := range []struct{ f, want api.Feed }{
			{api.Feed{ID: s}, api.Feed{ID: want}},
			{api.Feed{Path: []string{s}, ID: "a"}, api.Feed{Path: []string{want}, ID: "a"}},
			{api.Feed{Path: []string{"p", s, "q"}, ID: "a", Updated: 7}, api.Feed{Path: []string{"p", want, "q"}, ID: "a", Updated: 7}},
			{api.Feed{Path: []string{"p", "q", s}, ID: s, Title: s, Link: s}, api.Feed{Path: []string{"p", "q", want}, ID: want, Title: want, Link: want}},
			{api.Feed{ID: "a", Entries: []api.Entry{{ID: "x"}, {ID: s, Title: s, Updated: 7}}}, api.Feed{ID: "a", Entries: []api.Entry{{ID: want, Title: want, Updated: 7}, {ID: "x"}}}},
		} {
			if x != 0 {
				c.want = api.Feed{}
			}
			wantFeed(t, c.f, c.want, x)
			compareFeed(t, c.f)
			compareArchive(t, c.f, api.Feed{ID: "other"})
		}
	})
}

// P14.1 to P14.3: all strings of one and two bytes.
func TestShortStrings(t *testing.T) {
	for i := range 1 << 16 {
		s := string([]byte{byte(i >> 8), byte(i)})
		for _, s := range []string{s, s[1:]} {
			compareEntry(t, api.Entry{ID: s, Title: s})
			compareEntry(t, api.Entry{ID: "a", Link: s, Content: "a" + s + "b"})
			f := api.Feed{Path: []string{"p" + s, s + "q"}, ID: "a" + s, Title: s, Link: s, Entries: []api.Entry{{ID: "a" + s}, {ID: "a"}}}
			compareFeed(t, f)
			want, x := wantedArchive(f, api.Feed{ID: "a"})
			if got, y := normalize.Archive(f, api.Feed{ID: "a"}); x != y || show(got) != show(want) {
				t.Errorf("%q: %s, %v; want %s, %v", s, show(got), y, show(want), x)
			}
		}
	}
}

// P14.1, P14.2: the times of entries and feeds.
func TestTimes(t *testing.T) {
	for _, n := range slices.Concat(goodTimes, badTimes) {
		e, f, x := api.Entry{ID: "a", Title: "t", Updated: n}, api.Feed{Path: []string{"p"}, ID: "a", Updated: n}, api.OK
		withEntry := api.Feed{ID: "a", Entries: []api.Entry{e}}
		wantedEntry, wantedFeed, wantedWithEntry := e, f, withEntry
		if slices.Contains(badTimes, n) {
			x, wantedEntry, wantedFeed, wantedWithEntry = 3, api.Entry{}, api.Feed{}, api.Feed{}
		}
		wantEntry(t, e, wantedEntry, x)
		wantFeed(t, f, wantedFeed, x)
		wantFeed(t, withEntry, wantedWithEntry, x)
		compareArchive(t, f, withEntry)
		compareArchive(t, api.Feed{ID: "a", Updated: 7}, withEntry, f)
	}
}

// P14.2: paths of each number of names, and names that are wrong or missing at each place.
func TestPaths(t *testing.T) {
	for n := range 200 {
		path, want := slices.Repeat([]string{" a\tb"}, n), slices.Repeat([]string{"a b"}, n)
		if n <= 64 {
			wantFeed(t, api.Feed{Path: path, ID: "a"}, api.Feed{Path: want, ID: "a"}, 0)
		} else {
			wantFeed(t, api.Feed{Path: path, ID: "a"}, api.Feed{}, 9)
			wantFeed(t, api.Feed{Path: path, ID: "a", Updated: greatest + 1}, api.Feed{}, 9)
		}
		for i := range min(n, 67) {
			for _, c := range []struct {
				name string
				want api.Errno
			}{{"", 19}, {" ", 19}, {"\n\t", 19}, {"\xFF", 5}, {"\x00", 6}} {
				wrong := slices.Clone(path)
				wrong[i] = c.name
				if f, x := normalize.Feed(api.Feed{Path: wrong, ID: "a"}); x != c.want || showFeeds(f) != showFeeds(api.Feed{}) {
					t.Errorf("Feed with the name %q at %d of %d: %s, %v", c.name, i, n, showFeeds(f), x)
				}
			}
		}
	}
	wantFeed(t, api.Feed{Path: slices.Repeat([]string{"x"}, 1<<16), ID: "a"}, api.Feed{}, 9)
	wantFeed(t, api.Feed{Path: append(slices.Repeat([]string{"x"}, 1<<16), ""), ID: "a"}, api.Feed{}, 19)
	wantFeed(t, api.Feed{Path: append(slices.Repeat([]string{""}, 1<<16), "\xFF"), ID: "a"}, api.Feed{}, 5)
	wantFeed(t, api.Feed{Path: []string{}, ID: "a", Entries: []api.Entry{}}, api.Feed{ID: "a"}, 0)
}

// fault is something wrong at a place of a list of feeds.
type fault struct {
	place string
	want  api.Errno
	apply func(feeds []api.Feed)
}

// wrongString and missing are the faults of a string.
func wrongString(place string, at func([]api.Feed) *string) []fault {
	return []fault{{place, 5, func(feeds []api.Feed) { *at(feeds) = " \xFF\x00" }}, {place, 6, func(feeds []api.Feed) { *at(feeds) = "a\x00\xFF" }}}
}

func missing(place string, at func([]api.Feed) *string) []fault {
	return []fault{{place, 19, func(feeds []api.Feed) { *at(feeds) = "" }}, {place, 19, func(feeds []api.Feed) { *at(feeds) = " \t\r\n" }}}
}

// wrongTimes are the faults of a time.
func wrongTimes(place string, at func([]api.Feed) *int64) []fault {
	return []fault{{place, 3, func(feeds []api.Feed) { *at(feeds) = least - 1 }}, {place, 3, func(feeds []api.Feed) { *at(feeds) = greatest + 1 }}}
}

// entryFaults are the faults of an entry, in the chapter's order.
func entryFaults(place string, at func([]api.Feed) *api.Entry) []fault {
	id := func(feeds []api.Feed) *string { return &at(feeds).ID }
	return slices.Concat(
		wrongString(place+" ID", id),
		wrongString(place+" title", func(feeds []api.Feed) *string { return &at(feeds).Title }),
		wrongString(place+" link", func(feeds []api.Feed) *string { return &at(feeds).Link }),
		wrongString(place+" content", func(feeds []api.Feed) *string { return &at(feeds).Content }),
		missing(place+" ID", id),
		wrongTimes(place+" time", func(feeds []api.Feed) *int64 { return &at(feeds).Updated }),
	)
}

// feedFaults are the faults of a feed with three names and some entries, in the chapter's order.
func feedFaults(n, entries int) []fault {
	place := "feed " + strconv.Itoa(n)
	id := func(feeds []api.Feed) *string { return &feeds[n].ID }
	var out, empty []fault
	for i := range 3 {
		place, at := place+" name "+strconv.Itoa(i), func(feeds []api.Feed) *string { return &feeds[n].Path[i] }
		out, empty = append(out, wrongString(place, at)...), append(empty, missing(place, at)...)
	}
	out = slices.Concat(out,
		wrongString(place+" ID", id),
		wrongString(place+" title", func(feeds []api.Feed) *string { return &feeds[n].Title }),
		wrongString(place+" link", func(feeds []api.Feed) *string { return &feeds[n].Link }),
		empty,
		missing(place+" ID", id),
		[]fault{{place + " length", 9, func(feeds []api.Feed) { feeds[n].Path = append(feeds[n].Path, slices.Repeat([]string{"x"}, 62)...) }}},
		wrongTimes(place+" time", func(feeds []api.Feed) *int64 { return &feeds[n].Updated }),
	)
	for i := range entries {
		out = append(out, entryFaults(place+" entry "+strconv.Itoa(i), func(feeds []api.Feed) *api.Entry { return &feeds[n].Entries[i] })...)
	}
	return out
}

// faultless returns feeds in which the faults can be. All of them have the same ID, so that they are joined.
func faultless(feeds int) []api.Feed {
	f := api.Feed{Path: []string{" p", "q", "r\n"}, ID: "f ", Title: "t", Link: "l", Updated: 5, Entries: []api.Entry{{ID: " a", Title: "t", Updated: 1}, {ID: "b", Updated: 2}, {ID: "a", Content: "c", Updated: 3}}}
	return clone(slices.Repeat([]api.Feed{f}, feeds)...)
}

// with returns feeds with faults, of which the first one gives the error. It returns nil if two of the faults are at the same place.
func with(feeds int, faults ...fault) []api.Feed {
	out := faultless(feeds)
	for i, x := range faults {
		if slices.ContainsFunc(faults[:i], func(y fault) bool { return y.place == x.place }) {
			return nil
		}
		x.apply(out)
	}
	return out
}

// eachTogether calls f with each fault alone and with all pairs and triples of them, in their order.
func eachTogether(faults []fault, f func(list ...fault)) {
	for i, a := range faults {
		f(a)
		for j, b := range faults[i+1:] {
			f(a, b)
			for _, c := range faults[i+1+j+1:] {
				f(a, b, c)
			}
		}
	}
}

// P14.1: each fault of an entry, and all pairs and triples of them.
func TestEntryErrors(t *testing.T) {
	wrong := 0
	eachTogether(entryFaults("entry", func(feeds []api.Feed) *api.Entry { return &feeds[0].Entries[0] }), func(list ...fault) {
		if feeds := with(1, list...); feeds != nil {
			wrong++
			wantEntry(t, feeds[0].Entries[0], api.Entry{}, list[0].want)
			compareEntry(t, feeds[0].Entries[0])
		}
	})
	// One fault of the five places of an entry, with four faults of the ID and two of each other place; or two; or three.
	if wrong != 12+56+128 {
		t.Errorf("%d entries", wrong)
	}
}

// P14.2: each fault of a feed, and all pairs and triples of them.
func TestFeedErrors(t *testing.T) {
	wrong := 0
	eachTogether(feedFaults(0, 2), func(list ...fault) {
		if feeds := with(1, list...); feeds != nil {
			wrong++
			wantFeed(t, feeds[0], api.Feed{}, list[0].want)
			if _, x := wantedFeed(feeds[0]); x != list[0].want {
				t.Errorf("the definition has the error %v for %.1000s; want %v", x, showFeeds(feeds...), list[0].want)
			}
		}
	})
	if wrong < 10000 {
		t.Errorf("only %d feeds", wrong)
	}
	compareFeed(t, faultless(1)[0])
}

// P14.3: each fault of the first, second and third one of three feeds, and all pairs of them.
func TestArchiveErrors(t *testing.T) {
	faults := slices.Concat(feedFaults(0, 3), feedFaults(1, 3), feedFaults(2, 3))
	for i, a := range faults {
		feeds := with(3, a)
		wantArchive(t, feeds, api.Archive{}, a.want)
		compareArchive(t, feeds...)
		for _, b := range faults[i+1:] {
			if feeds := with(3, a, b); feeds != nil {
				wantArchive(t, feeds, api.Archive{}, a.want)
			}
		}
	}
	compareArchive(t, faultless(3)...)
	wantArchive(t, []api.Feed{{ID: "a"}, {}, {ID: "\xFF"}}, api.Archive{}, 19)
	wantArchive(t, []api.Feed{{ID: "a"}, {ID: "\xFF"}, {}}, api.Archive{}, 5)
}

// P14.2: entries are combined, and put in order.
func TestCombineEntries(t *testing.T) {
	e := func(id string, updated int64) api.Entry { return api.Entry{ID: id, Updated: updated} }
	for _, c := range []struct{ entries, want []api.Entry }{
		{nil, nil},
		{[]api.Entry{e("a", 1)}, []api.Entry{e("a", 1)}},
		{[]api.Entry{e("a", 1), e("b", 2)}, []api.Entry{e("b", 2), e("a", 1)}},
		{[]api.Entry{e("b", 2), e("a", 1)}, []api.Entry{e("b", 2), e("a", 1)}},
		{[]api.Entry{e("b", 2), e("c", 2), e("a", 2)}, []api.Entry{e("a", 2), e("b", 2), e("c", 2)}},
		{[]api.Entry{e("é", 2), e("😀", 2), e("\uFFFD", 2), e("z", 2), e("B", 2), e("10", 2), e("9", 2)}, []api.Entry{e("10", 2), e("9", 2), e("B", 2), e("z", 2), e("é", 2), e("\uFFFD", 2), e("😀", 2)}},
		{[]api.Entry{e("x", least), e("y", greatest), e("z", 0)}, []api.Entry{e("y", greatest), e("z", 0), e("x", least)}},
		// Equal IDs beside each other and apart, and three and more of one ID.
		{[]api.Entry{e("a", 1), e("a", 2)}, []api.Entry{e("a", 2)}},
		{[]api.Entry{e("a", 2), e("a", 1)}, []api.Entry{e("a", 2)}},
		{[]api.Entry{e("a", 2), e("b", 2), e("a", 1)}, []api.Entry{e("a", 2), e("b", 2)}},
		{[]api.Entry{e("a", 1), e("b", 2), e("a", 3), e("c", 0), e("a", 2)}, []api.Entry{e("a", 3), e("b", 2), e("c", 0)}},
		{[]api.Entry{e("a", 1), e("a", 1), e("a", 1), e("a", 1)}, []api.Entry{e("a", 1)}},
		{[]api.Entry{e("a", -1), e("a", -2), e("b", -3), e("b", 0)}, []api.Entry{e("b", 0), e("a", -1)}},
		// IDs that are equal only when collapsed.
		{[]api.Entry{e("a", 1), e(" a", 2), e("a\n", 3), e("\ta\r", 0)}, []api.Entry{e("a", 3)}},
		{[]api.Entry{e("a b", 1), e("a  b", 2), e("ab", 3), e("a\u00A0b", 4), e("a\tb", 0)}, []api.Entry{e("a\u00A0b", 4), e("ab", 3), e("a b", 2)}},
		{[]api.Entry{e("é", 1), e("e\u0301", 2), e("É", 3)}, []api.Entry{e("É", 3), e("e\u0301", 2), e("é", 1)}},
		{[]api.Entry{e("a", 1), e("A", 1), e("aa", 1)}, []api.Entry{e("A", 1), e("a", 1), e("aa", 1)}},
		// Where the times are equal, the canonical bytes of the collapsed entries decide.
		{[]api.Entry{{ID: "a", Title: "x"}, {ID: "a", Title: "y"}, {ID: "a", Title: "w"}}, []api.Entry{{ID: "a", Title: "y"}}},
		{[]api.Entry{{ID: "a", Title: " y"}, {ID: "a", Title: "x"}}, []api.Entry{{ID: "a", Title: "y"}}},
		{[]api.Entry{{ID: "a", Title: "x", Link: "z"}, {ID: "a", Title: "y"}, {ID: "a", Content: "z"}}, []api.Entry{{ID: "a", Title: "y"}}},
		{[]api.Entry{{ID: "a", Link: "x", Content: "z"}, {ID: "a", Link: "y"}}, []api.Entry{{ID: "a", Link: "y"}}},
		{[]api.Entry{{ID: "a", Content: "x"}, {ID: "a", Content: "\n"}}, []api.Entry{{ID: "a", Content: "x"}}},
		{[]api.Entry{{ID: "a", Content: "a!"}, {ID: "a", Content: "a"}, {ID: "a", Content: "a b"}}, []api.Entry{{ID: "a", Content: "a"}}},
		{[]api.Entry{{ID: "a", Title: "z", Updated: 8}, {ID: "a", Title: "y", Updated: 9}, {ID: "a", Title: "z", Updated: 7}}, []api.Entry{{ID: "a", Title: "y", Updated: 9}}},
		{[]api.Entry{{ID: "a", Title: "x "}, {ID: " a", Title: "x"}, {ID: "a", Title: "x", Content: "\t"}}, []api.Entry{{ID: "a", Title: "x"}}},
	} {
		f := api.Feed{Path: []string{"p"}, ID: "f", Entries: c.entries}
		want := api.Feed{Path: []string{"p"}, ID: "f", Entries: c.want}
		wantFeed(t, f, want, 0)
		compareFeed(t, f)
		wantArchive(t, []api.Feed{f}, api.Archive{Feeds: []api.Feed{want}}, 0)
	}
}

// P14.3: feeds are combined, and put in order.
func TestArchive(t *testing.T) {
	f := func(id string, path ...string) api.Feed { return api.Feed{Path: path, ID: id} }
	e := func(id string, updated int64) api.Entry { return api.Entry{ID: id, Updated: updated} }
	for _, c := range []struct{ feeds, want []api.Feed }{
		{nil, nil},
		{[]api.Feed{f("a")}, []api.Feed{f("a")}},
		{[]api.Feed{f("a"), f("a")}, []api.Feed{f("a")}},
		{[]api.Feed{f("a"), f(" a"), f("a\n"), f("b"), f("\ta")}, []api.Feed{f("a"), f("b")}},
		{[]api.Feed{f("b"), f("c"), f("a")}, []api.Feed{f("a"), f("b"), f("c")}},
		{[]api.Feed{f("a", "q"), f("b", "p"), f("c", "p", "p"), f("d"), f("e", "é"), f("f", "p q")}, []api.Feed{f("d"), f("b", "p"), f("c", "p", "p"), f("f", "p q"), f("a", "q"), f("e", "é")}},
		{[]api.Feed{f("a", " p "), f("a\t", "p")}, []api.Feed{f("a", "p")}},
		{[]api.Feed{{ID: "f", Updated: 1, Entries: []api.Entry{e("a", 1)}}, {ID: "f", Entries: []api.Entry{e("a", 2)}}}, []api.Feed{{ID: "f", Updated: 1, Entries: []api.Entry{e("a", 2)}}}},
		{[]api.Feed{{ID: "f", Entries: []api.Entry{e("a", 2)}}, {ID: "f", Updated: 1, Entries: []api.Entry{e(" a", 1)}}}, []api.Feed{{ID: "f", Updated: 1, Entries: []api.Entry{e("a", 2)}}}},
		{[]api.Feed{{ID: "f", Entries: []api.Entry{e("a", 2)}}, {ID: "g", Entries: []api.Entry{e("a", 1)}}}, []api.Feed{{ID: "f", Entries: []api.Entry{e("a", 2)}}, {ID: "g", Entries: []api.Entry{e("a", 1)}}}},
		{[]api.Feed{{ID: "f", Entries: []api.Entry{e("b", 1)}}, {ID: "f"}, {ID: "f", Entries: []api.Entry{e("a", 1), e("c", 3)}}}, []api.Feed{{ID: "f", Entries: []api.Entry{e("c", 3), e("a", 1), e("b", 1)}}}},
		{[]api.Feed{{ID: "f", Entries: []api.Entry{e("b", 1), e("a", 2)}}, {ID: "g"}, {ID: "f", Entries: []api.Entry{e("b", 3)}}, {ID: "f", Entries: []api.Entry{e("b", 2)}}}, []api.Feed{{ID: "f", Entries: []api.Entry{e("b", 3), e("a", 2)}}, {ID: "g"}}},
		{[]api.Feed{{ID: "f", Entries: []api.Entry{{ID: "a", Title: "x"}}}, {ID: "f", Entries: []api.Entry{{ID: "a", Title: "z"}}}, {ID: "f", Entries: []api.Entry{{ID: "a", Title: "y"}}}}, []api.Feed{{ID: "f", Entries: []api.Entry{{ID: "a", Title: "z"}}}}},
		// The later feed gives all fields: its path, title and link, also if they are empty.
		{[]api.Feed{{Path: []string{"p"}, ID: "a", Title: "t", Link: "l", Updated: 4}, {ID: "a", Updated: 5}, {Path: []string{"q"}, ID: "a", Title: "u", Updated: 3}}, []api.Feed{{ID: "a", Updated: 5}}},
		{[]api.Feed{{ID: "a", Title: "z", Updated: 4}, {Path: []string{"p", "q"}, ID: "a", Link: "l", Updated: 5}}, []api.Feed{{Path: []string{"p", "q"}, ID: "a", Link: "l", Updated: 5}}},
		{[]api.Feed{{ID: "a", Updated: least}, {ID: "a", Updated: greatest}, {ID: "a"}}, []api.Feed{{ID: "a", Updated: greatest}}},
		// Where the times are equal, the canonical bytes decide, in which the path comes first.
		{[]api.Feed{f("a", "p"), f("a"), f("a", "q")}, []api.Feed{f("a")}},
		{[]api.Feed{f("a", "p"), f("a", "q"), f("a", "p", "q")}, []api.Feed{f("a", "q")}},
		{[]api.Feed{f("a", "p"), f("a", "p", "q")}, []api.Feed{f("a", "p")}},
		{[]api.Feed{{ID: "a", Title: "x"}, {ID: "a", Title: "y"}, {ID: "a", Link: "z"}}, []api.Feed{{ID: "a", Title: "y"}}},
		{[]api.Feed{{ID: "a", Link: "x"}, {ID: "a", Link: " y"}, {ID: "a"}}, []api.Feed{{ID: "a", Link: "y"}}},
		{[]api.Feed{{Path: []string{"p"}, ID: "a", Title: "z"}, {Path: []string{"q"}, ID: "a", Title: "y"}}, []api.Feed{{Path: []string{"q"}, ID: "a", Title: "y"}}},
		// Entries do not decide which feed is the later one.
		{[]api.Feed{{ID: "a", Title: "x", Entries: []api.Entry{e("z", 9)}}, {ID: "a", Title: "y", Entries: []api.Entry{e("b", 1)}}}, []api.Feed{{ID: "a", Title: "y", Entries: []api.Entry{e("z", 9), e("b", 1)}}}},
	} {
		wantArchive(t, c.feeds, api.Archive{Feeds: c.want}, 0)
		compareArchive(t, c.feeds...)
	}
	wantArchive(t, []api.Feed{}, api.Archive{}, 0)
	if a, x := normalize.Archive(); x != 0 || len(a.Feeds) != 0 {
		t.Errorf("Archive() = %s, %v", show(a), x)
	}
}

// lists calls f with all lists of at most n of the elements, which may be repeated.
func lists[T any](elements []T, n int, f func([]T)) {
	var visit func(list []T)
	visit = func(list []T) {
		f(slices.Clone(list))
		if len(list) < n {
			for _, x := range elements {
				visit(append(slices.Clone(list), x))
			}
		}
	}
	visit(nil)
}

// P14.2: all short lists of entries.
func TestShortListsOfEntries(t *testing.T) {
	pool := []api.Entry{{ID: "a", Updated: 5}, {ID: " a", Updated: 4}, {ID: "a\n", Title: "x", Updated: 5}, {ID: "a", Title: "\ty", Updated: 5}, {ID: "a", Link: "x", Updated: 5}, {ID: "b", Updated: 5}, {ID: "b ", Updated: 5}, {ID: "ab", Content: "x  y", Updated: 4}, {ID: "a b", Updated: greatest}}
	lists(pool, 4, func(list []api.Entry) { compareFeed(t, api.Feed{ID: "f", Entries: list}) })
	// With entries that are wrong.
	pool = []api.Entry{{ID: "a", Updated: 5}, {ID: " a", Updated: 4}, {}, {ID: "\xFF"}, {ID: "a", Content: "\x00"}, {ID: "a", Updated: greatest + 1}}
	lists(pool, 4, func(list []api.Entry) { compareFeed(t, api.Feed{ID: "f", Entries: list}) })
}

// feedPool returns feeds with few IDs, which are equal when collapsed, and with few paths and entries.
func feedPool() []api.Feed {
	x, y, old := api.Entry{ID: "x", Updated: 5}, api.Entry{ID: "y", Title: "t", Updated: 5}, api.Entry{ID: " x", Title: "old", Updated: 4}
	return []api.Feed{
		{ID: "a", Updated: 5, Entries: []api.Entry{x}}, {ID: " a", Updated: 4, Entries: []api.Entry{y, old}}, {Path: []string{"p"}, ID: "a", Updated: 5}, {Path: []string{" p "}, ID: "a\n", Title: "t", Updated: 5, Entries: []api.Entry{old, old, y}}, {Path: []string{"p", "q"}, ID: "a", Link: "l"},
		{ID: "b", Updated: 5, Entries: []api.Entry{old, x}}, {Path: []string{"p"}, ID: "b", Updated: 5}, {Path: []string{"q"}, ID: "b", Updated: 9, Entries: []api.Entry{y}}, {Path: []string{"p"}, ID: "c"},
	}
}

// P14.3, P14.5: all short lists of feeds, whose result does not depend on the order and on repetitions.
func TestShortListsOfFeeds(t *testing.T) {
	results := map[string]string{}
	lists(indexes(feedPool()), 4, func(list []int) {
		feeds, set := pick(feedPool(), list)
		a, x := compareArchive(t, feeds...)
		if before, found := results[set]; found && before != show(a) || x != api.OK {
			t.Errorf("the feeds of %s give %s and %s", set, before, show(a))
		}
		results[set] = show(a)
	})
	const different = 1 + 9 + 36 + 84 + 126
	if len(results) != different {
		t.Errorf("%d sets of feeds; want %d", len(results), different)
	}
	wrong := append(feedPool()[:3], api.Feed{}, api.Feed{ID: "\xFF"}, api.Feed{ID: "a", Updated: greatest + 1}, api.Feed{ID: "a", Entries: []api.Entry{{ID: "x"}, {ID: "y", Link: "\x00"}}})
	lists(wrong, 4, func(list []api.Feed) { compareArchive(t, list...) })
}

// indexes returns the indexes of a list.
func indexes[T any](list []T) []int {
	var out []int
	for i := range list {
		out = append(out, i)
	}
	return out
}

// pick returns the elements of a list with some indexes, and a name of the set of the indexes.
func pick[T any](list []T, numbers []int) ([]T, string) {
	var out []T
	set := make([]byte, len(list))
	for _, i := range numbers {
		out, set[i] = append(out, list[i]), 1
	}
	return out, string(set)
}

// drawn are drawn strings, entries and feeds with few IDs.
type drawn struct{ *rand.Rand }

func (d drawn) from(list ...string) string { return list[d.IntN(len(list))] }

func (d drawn) spaced(s string) string {
	space := func() string { return d.from("", "", "", " ", "\t", "\r\n", "  ") }
	return space() + strings.ReplaceAll(s, " ", d.from(" ", "  ", "\n", " \t ")) + space()
}

func (d drawn) text() string {
	return d.spaced(d.from("", "a", "a b", "b", "é", "a!", "€ 😀", "\"", "\\"))
}

func (d drawn) time() int64 { return []int64{least, -1, 0, 1, 1, 1, 2, greatest}[d.IntN(8)] }

func (d drawn) entry() api.Entry {
	return api.Entry{ID: d.spaced(d.from("a", "b", "c", "a b", "é", "😀")), Title: d.text(), Link: d.text(), Content: d.text(), Updated: d.time()}
}

func (d drawn) feed() api.Feed {
	f := api.Feed{ID: d.spaced(d.from("a", "b", "a b", "é", "😀")), Title: d.text(), Link: d.text(), Updated: d.time()}
	for range d.IntN(4) {
		f.Path = append(f.Path, d.spaced(d.from("a", "b", "a b", "é")))
	}
	for range d.IntN(9) {
		f.Entries = append(f.Entries, d.entry())
	}
	return f
}

func (d drawn) feeds() []api.Feed {
	var out []api.Feed
	for range d.IntN(12) {
		out = append(out, d.feed())
	}
	return out
}

// P14.3, P14.5: drawn feeds, in other orders, and repeated.
func TestDrawnFeeds(t *testing.T) {
	d := drawn{rand.New(rand.NewPCG(14, 1))}
	for range 1500 {
		feeds := d.feeds()
		want, x := compareArchive(t, feeds...)
		if x != api.OK {
			t.Fatalf("%s: %v", showFeeds(feeds...), x)
		}
		for range 5 {
			more := slices.Clone(feeds)
			for range d.IntN(5) {
				if len(feeds) > 0 {
					more = append(more, feeds[d.IntN(len(feeds))])
				}
			}
			d.Shuffle(len(more), func(i, j int) { more[i], more[j] = more[j], more[i] })
			wantArchive(t, more, want, 0)
		}
		wantArchive(t, slices.Concat(feeds, want.Feeds), want, 0)
		wantArchive(t, slices.Concat(want.Feeds, feeds), want, 0)
	}
}

// P14.3: the entries of a feed may be divided among several feeds that are otherwise equal, also if some of them are in several ones.
func TestDividedFeeds(t *testing.T) {
	d := drawn{rand.New(rand.NewPCG(14, 2))}
	for range 1500 {
		feeds := d.feeds()
		want, _ := normalize.Archive(feeds...)
		var parts []api.Feed
		for _, f := range feeds {
			own := make([]api.Feed, 1+d.IntN(4))
			for i := range own {
				own[i] = f
				own[i].Entries = nil
			}
			for _, e := range f.Entries {
				for range 1 + d.IntN(2) {
					part := &own[d.IntN(len(own))]
					part.Entries = append(part.Entries, e)
				}
			}
			parts = append(parts, own...)
		}
		wantArchive(t, parts, want, 0)
		compareArchive(t, parts...)
	}
}

// P14.3: an archive of some feeds and the feeds of an archive of others give the archive of all of them.
func TestArchivesOfArchives(t *testing.T) {
	d := drawn{rand.New(rand.NewPCG(14, 3))}
	for range 1000 {
		a, b := d.feeds(), d.feeds()
		want, _ := wantedArchive(slices.Concat(a, b)...)
		first, _ := normalize.Archive(a...)
		second, _ := normalize.Archive(b...)
		wantArchive(t, slices.Concat(first.Feeds, b), want, 0)
		wantArchive(t, slices.Concat(first.Feeds, second.Feeds), want, 0)
		wantArchive(t, slices.Concat(second.Feeds, first.Feeds), want, 0)
	}
}

// P14.5: valid entries, feeds and archives are not changed.
func TestValidIsKept(t *testing.T) {
	a := sample()
	if model.Check(a) != api.OK {
		t.Fatal("the sample is not valid")
	}
	wantArchive(t, a.Feeds, a, 0)
	for _, f := range a.Feeds {
		wantFeed(t, f, f, 0)
		wantArchive(t, []api.Feed{f}, api.Archive{Feeds: []api.Feed{f}}, 0)
		for _, e := range f.Entries {
			wantEntry(t, e, e, 0)
		}
	}
	for _, s := range goodStrings {
		for _, n := range goodTimes {
			e := api.Entry{ID: s, Title: s, Link: s, Content: s, Updated: n}
			wantEntry(t, e, e, 0)
			f := api.Feed{Path: []string{s, "p", s}, ID: s, Title: s, Link: s, Updated: n, Entries: []api.Entry{e}}
			wantFeed(t, f, f, 0)
			wantArchive(t, []api.Feed{f}, api.Archive{Feeds: []api.Feed{f}}, 0)
		}
	}
	// The sample with its lists turned around is not valid any more, but is made so again.
	slices.Reverse(a.Feeds)
	for _, f := range a.Feeds {
		slices.Reverse(f.Entries)
	}
	wantArchive(t, a.Feeds, sample(), 0)
}

// roomy returns a copy of a list with room behind its end, where there are other elements.
func roomy[T any](list []T, other T) []T {
	return append(append([]T{}, list...), slices.Repeat([]T{other}, 20)...)[:len(list)]
}

// roomyFeeds returns copies of feeds whose lists have room behind their ends.
func roomyFeeds(feeds []api.Feed) []api.Feed {
	out := roomy(feeds, api.Feed{ID: "\xFF"})
	for i, f := range out {
		out[i].Path, out[i].Entries = roomy(f.Path, "\xFF"), roomy(f.Entries, api.Entry{ID: "\xFF"})
	}
	return out
}

// whole returns feeds with what is behind the ends of their lists.
func whole(feeds []api.Feed) string {
	all := clone(feeds[:cap(feeds)]...)
	for i, f := range feeds {
		all[i].Path, all[i].Entries = f.Path[:cap(f.Path)], f.Entries[:cap(f.Entries)]
	}
	return showFeeds(all...)
}

// overwrite changes all elements of the lists of feeds, and what is behind their ends.
func overwrite(feeds []api.Feed, s string) {
	for _, f := range feeds {
		path, entries := f.Path[:cap(f.Path)], f.Entries[:cap(f.Entries)]
		for i := range path {
			path[i] = s
		}
		for i := range entries {
			entries[i] = api.Entry{ID: s}
		}
	}
	feeds = feeds[:cap(feeds)]
	for i := range feeds {
		feeds[i] = api.Feed{ID: s}
	}
}

// P14.4: results share no memory with the arguments, with each other, and within themselves; arguments are not modified, and nothing behind the ends of lists is read or written.
func TestResultsAreNew(t *testing.T) {
	d := drawn{rand.New(rand.NewPCG(14, 4))}
	for range 1000 {
		feeds := d.feeds()
		if d.IntN(2) == 0 {
			feeds = slices.Concat(feeds, feeds)
		}
		want, _ := wantedArchive(feeds...)
		args := roomyFeeds(feeds)
		before := whole(args)
		a, _ := normalize.Archive(args...)
		b, _ := normalize.Archive(args...)
		if show(a) != show(want) || show(b) != show(want) || whole(args) != before {
			t.Fatalf("Archive(%s) = %s and %s; want %s", before, show(a), show(b), show(want))
		}
		// Each feed is overwritten alone, so that the others are seen to be left as they were.
		for i := range a.Feeds {
			overwrite(a.Feeds[i:i+1:i+1], "other")
			if showFeeds(a.Feeds[i+1:]...) != showFeeds(want.Feeds[i+1:]...) {
				t.Fatalf("the feeds of %s share memory", show(want))
			}
		}
		if show(b) != show(want) || whole(args) != before {
			t.Fatalf("Archive(%s) shares memory with it or with another result", before)
		}
		overwrite(args, "other")
		if show(b) != show(want) {
			t.Fatalf("Archive(%s) shares memory with it", before)
		}
	}
}

// P14.4: likewise the results of Feed.
func TestResultsOfFeedAreNew(t *testing.T) {
	d := drawn{rand.New(rand.NewPCG(14, 5))}
	for range 3000 {
		args := roomyFeeds([]api.Feed{d.feed()})
		want, _ := wantedFeed(args[0])
		before := whole(args)
		f, _ := normalize.Feed(args[0])
		g, _ := normalize.Feed(args[0])
		if showFeeds(f) != showFeeds(want) || whole(args) != before {
			t.Fatalf("Feed(%s) = %s; want %s", before, showFeeds(f), showFeeds(want))
		}
		overwrite([]api.Feed{f}, "other")
		if showFeeds(g) != showFeeds(want) || whole(args) != before {
			t.Fatalf("Feed(%s) shares memory with it or with another result", before)
		}
		overwrite(args, "other")
		if showFeeds(g) != showFeeds(want) {
			t.Fatalf("Feed(%s) shares memory with it", before)
		}
	}
	// A valid feed, which is not changed, is a copy nevertheless.
	for _, f := range sample().Feeds {
		got, _ := normalize.Feed(f)
		before := showFeeds(f)
		overwrite([]api.Feed{got}, "other")
		if showFeeds(f) != before {
			t.Errorf("Feed(%s) shares memory with it", before)
		}
	}
}

// P14.4: feeds with common lists are left as they were, and have lists of their own in the result.
func TestCommonLists(t *testing.T) {
	path, entries := []string{" p "}, []api.Entry{{ID: " b"}, {ID: "a"}, {ID: "c", Updated: 5}}
	feeds := []api.Feed{{Path: path, ID: "b", Entries: entries}, {Path: path, ID: "a", Entries: entries}, {Path: path, ID: " a", Entries: entries[:2]}}
	want, _ := wantedArchive(feeds...)
	a, x := compareArchive(t, feeds...)
	got, _ := normalize.Archive(feeds...)
	if x != api.OK || show(a) != show(want) || path[0] != " p " || entries[0].ID != " b" || entries[2].ID != "c" {
		t.Errorf("%s, %v; the arguments are %q and %v", show(a), x, path, entries)
	}
	got.Feeds[0].Path[0], got.Feeds[0].Entries[0].ID = "x", "x"
	if showFeeds(got.Feeds[1]) != showFeeds(want.Feeds[1]) {
		t.Errorf("the feeds share memory: %s", show(got))
	}
}

// P1: large inputs and extreme arguments.
func TestLarge(t *testing.T) {
	const many = 100000
	one, all := api.Feed{ID: "f"}, api.Feed{ID: "f"}
	var feeds, same []api.Feed
	for i := range many {
		n := strconv.Itoa(i * 7919 % many)
		one.Entries = append(one.Entries, api.Entry{ID: " a", Title: n})
		all.Entries = append(all.Entries, api.Entry{ID: n, Updated: int64(i % 3)})
		feeds = append(feeds, api.Feed{ID: n, Path: []string{n[:1]}, Entries: []api.Entry{{ID: "a"}}})
		same = append(same, api.Feed{ID: "f", Title: n, Entries: []api.Entry{{ID: n}}})
	}
	if f, x := normalize.Feed(one); x != api.OK || len(f.Entries) != 1 || f.Entries[0].Title != "99999" {
		t.Errorf("entries of one ID: %.1000s, %v", showFeeds(f), x)
	}
	if f, x := normalize.Feed(all); x != api.OK || len(f.Entries) != many || model.CheckFeed(f) != api.OK {
		t.Errorf("entries of different IDs: %d, %v", len(f.Entries), x)
	}
	if a, x := normalize.Archive(feeds...); x != api.OK || len(a.Feeds) != many || model.Check(a) != api.OK {
		t.Errorf("feeds of different IDs: %d, %v", len(a.Feeds), x)
	}
	if a, x := normalize.Archive(same...); x != api.OK || len(a.Feeds) != 1 || a.Feeds[0].Title != "99999" || len(a.Feeds[0].Entries) != many || model.Check(a) != api.OK {
		t.Errorf("feeds of one ID: %d, %v", len(a.Feeds), x)
	}
	wantArchive(t, []api.Feed{{Path: slices.Repeat([]string{"\xFF"}, 1<<16), ID: "\x00", Updated: math.MinInt64, Entries: make([]api.Entry, 1<<16)}}, api.Archive{}, 5)
	wantArchive(t, make([]api.Feed, 1<<16), api.Archive{}, 19)
}

// P1: an entry and a feed that are much longer than the many others with the same ID and time, wherever they are.
func TestLongAmongMany(t *testing.T) {
	const many = 20000
	long := strings.Repeat("z", 1<<20)
	for _, i := range []int{0, many / 2, many - 1} {
		f := api.Feed{ID: "f"}
		var feeds []api.Feed
		for j := range many {
			f.Entries = append(f.Entries, api.Entry{ID: "a", Content: strconv.Itoa(j)})
			feeds = append(feeds, api.Feed{ID: "f", Title: strconv.Itoa(j)})
		}
		f.Entries[i].Content, feeds[i].Title = long, long
		if got, x := normalize.Feed(f); x != api.OK || len(got.Entries) != 1 || got.Entries[0].Content != long {
			t.Errorf("%d: %.1000s, %v", i, showFeeds(got), x)
		}
		if got, x := normalize.Archive(feeds...); x != api.OK || len(got.Feeds) != 1 || got.Feeds[0].Title != long {
			t.Errorf("%d: %.1000s, %v", i, show(got), x)
		}
	}
}

// P1, P2: concurrent calls with the same arguments give the same answers.
func TestConcurrentCalls(t *testing.T) {
	d := drawn{rand.New(rand.NewPCG(14, 6))}
	var lists [][]api.Feed
	var want []string
	for range 50 {
		feeds := d.feeds()
		a, _ := wantedArchive(feeds...)
		lists, want = append(lists, feeds), append(want, show(a))
	}
	var group sync.WaitGroup
	for range 8 {
		group.Go(func() {
			for i, feeds := range lists {
				a, x := normalize.Archive(feeds...)
				if show(a) != want[i] || x != api.OK {
					t.Errorf("%s, %v; want %s", show(a), x, want[i])
				}
				for _, f := range feeds {
					wanted, _ := wantedFeed(f)
					if got, x := normalize.Feed(f); x != api.OK || showFeeds(got) != showFeeds(wanted) {
						t.Errorf("%s, %v; want %s", showFeeds(got), x, showFeeds(wanted))
					}
				}
			}
		})
	}
	group.Wait()
}

// Rule 7: the result is the same each time, although maps yield their elements in different orders.
func TestSameEachTime(t *testing.T) {
	d := drawn{rand.New(rand.NewPCG(14, 7))}
	for range 20 {
		feeds := d.feeds()
		want, _ := normalize.Archive(feeds...)
		for range 100 {
			wantArchive(t, feeds, want, 0)
		}
	}
}

// feedsOf makes feeds of a string: each byte 0xF0 begins a feed, 0xF1 a name, 0xF2 an entry and 0xF3 the next field; the length of the last field is the time.
func feedsOf(s string) []api.Feed {
	var out []api.Feed
	for _, part := range strings.Split(s, "\xF0") {
		entries := strings.Split(part, "\xF2")
		names := strings.Split(entries[0], "\xF1")
		head := append(strings.Split(names[0], "\xF3"), "", "", "")
		f := api.Feed{Path: names[1:], ID: head[0], Title: head[1], Link: head[2], Updated: int64(len(head[2]))}
		for _, e := range entries[1:] {
			fields := append(strings.Split(e, "\xF3"), "", "", "", "")
			f.Entries = append(f.Entries, api.Entry{ID: fields[0], Title: fields[1], Link: fields[2], Content: fields[3], Updated: int64(len(fields[3]))})
		}
		out = append(out, f)
	}
	return out
}

func FuzzArchive(f *testing.F) {
	for _, s := range []string{"", "a", "a\xF0 a\xF0b", "a\xF3t\xF3l\xF1p\xF1 q\xF2x\xF3\xF3\xF3c\xF2 x \xF3t\xF0b\xF2x\xF2y\xF3\t\n", "\xF1a", "a\xF1", "a\xF2\x00", "a\xF2\xFF\xF0\x00", "a b\xF1p\xF0a  b\xF1q\xF2é\xF2 é\xF3€"} {
		f.Add(s)
	}
	f.Fuzz(func(t *testing.T, s string) {
		feeds := feedsOf(s)
		want, x := compareArchive(t, feeds...)
		for _, f := range feeds {
			compareFeed(t, f)
			for _, e := range f.Entries {
				compareEntry(t, e)
			}
		}
		slices.Reverse(feeds)
		if x == api.OK {
			wantArchive(t, slices.Concat(feeds, feeds), want, 0)
		}
	})
}
