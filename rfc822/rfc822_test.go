package rfc822_test

import (
	"fmt"
	"math"
	"regexp"
	"slices"
	"strconv"
	"strings"
	"sync"
	"testing"
	"time"
	"unicode"

	"feedvault/api"
	"feedvault/rfc822"
)

const (
	day    = 86400
	layout = "Mon, 02 Jan 2006 15:04:05 GMT"
)

var (
	days   = []string{"Sun", "Mon", "Tue", "Wed", "Thu", "Fri", "Sat"}
	months = []string{"Jan", "Feb", "Mar", "Apr", "May", "Jun", "Jul", "Aug", "Sep", "Oct", "Nov", "Dec"}
)

// zones are the zones that have names, with their hours.
var zones = []struct {
	name string
	hour int64
}{
	{"UT", 0}, {"UTC", 0}, {"GMT", 0}, {"Z", 0},
	{"EST", -5}, {"EDT", -4}, {"CST", -6}, {"CDT", -5}, {"MST", -7}, {"MDT", -6}, {"PST", -8}, {"PDT", -7},
}

var form = newForm()

// newForm returns a pattern with a group for each part of the form.
func newForm() *regexp.Regexp {
	const white = "[\t\n\r ]"
	weekday := "(?:(?:" + anyCase(days) + ")," + white + "+)?"
	clock := "([0-9]{2}):([0-9]{2})(?::([0-9]{2}))?"
	zone := "(?:(" + anyCase(zoneNames()) + ")|([-+])([0-9]{2})([0-9]{2}))"
	words := []string{weekday + "([0-9]{1,2})", "(" + anyCase(months) + ")", "([0-9]{4}|[0-9]{2})", clock, zone}
	return regexp.MustCompile("^" + white + "*" + strings.Join(words, white+"+") + white + "*$")
}

// anyCase returns a pattern for names in upper or lower case. The flag i would also match letters that are not ASCII.
func anyCase(names []string) string {
	var out strings.Builder
	for i, name := range names {
		if i > 0 {
			out.WriteString("|")
		}
		for _, letter := range name {
			fmt.Fprintf(&out, "[%c%c]", unicode.ToUpper(letter), unicode.ToLower(letter))
		}
	}
	return out.String()
}

func zoneNames() []string {
	var out []string
	for _, zone := range zones {
		out = append(out, zone.name)
	}
	return out
}

// parse is the chapter's definition of Parse, with the calendar of package time.
func parse(s string) (int64, api.Errno) {
	groups := form.FindStringSubmatch(s)
	if groups == nil {
		return 0, api.ErrDate
	}
	var n [11]int
	for i, digits := range groups {
		n[i], _ = strconv.Atoi(digits)
	}
	year, month := n[3], 1+slices.IndexFunc(months, func(name string) bool { return strings.EqualFold(name, groups[2]) })
	if len(groups[3]) == 2 {
		year = 1950 + (year+50)%100
	}
	date := time.Date(year, time.Month(month), n[1], n[4], n[5], n[6], 0, time.UTC)
	// Package time carries what is too much in one part over to the next one.
	same := date.Year() == year && int(date.Month()) == month && date.Day() == n[1] && date.Hour() == n[4] && date.Minute() == n[5] && date.Second() == n[6]
	if !same || year == 0 || n[9] > 23 || n[10] > 59 {
		return 0, api.ErrDate
	}
	ahead := int64(n[9]*3600 + n[10]*60)
	if groups[8] == "-" {
		ahead = -ahead
	}
	for _, zone := range zones {
		if strings.EqualFold(zone.name, groups[7]) {
			ahead = zone.hour * 3600
		}
	}
	t := date.Unix() - ahead
	if t < api.MinTime || t > api.MaxTime {
		return 0, api.ErrRange
	}
	return t, api.OK
}

func wantTime(t *testing.T, s string, want int64) {
	t.Helper()
	if got, e := rfc822.Parse(s); got != want || e != api.OK {
		t.Errorf("Parse(%q) = %d, %v; want %d", s, got, e, want)
	}
}

func wantError(t *testing.T, s string, want api.Errno) {
	t.Helper()
	if got, e := rfc822.Parse(s); got != 0 || e != want {
		t.Errorf("Parse(%.200q) = %d, %v; want 0, %v", s, got, e, want)
	}
}

// compare compares Parse with the definition.
func compare(t *testing.T, s string) {
	t.Helper()
	want, wantE := parse(s)
	if got, e := rfc822.Parse(s); got != want || e != wantE {
		t.Errorf("Parse(%q) = %d, %v; want %d, %v", s, got, e, want, wantE)
	}
}

// cases returns a name with each of its letters in upper and in lower case.
func cases(name string) []string {
	out := []string{""}
	for _, letter := range name {
		var longer []string
		for _, s := range out {
			longer = append(longer, s+string(unicode.ToUpper(letter)), s+string(unicode.ToLower(letter)))
		}
		out = longer
	}
	return out
}

// known are times and their forms.
var known = []struct {
	t int64
	s string
}{
	{-62135596800, "Mon, 01 Jan 0001 00:00:00 GMT"},
	{-62135510401, "Mon, 01 Jan 0001 23:59:59 GMT"},
	{-62104060801, "Mon, 31 Dec 0001 23:59:59 GMT"},
	{-62104060800, "Tue, 01 Jan 0002 00:00:00 GMT"},
	{-59011459201, "Thu, 31 Dec 0099 23:59:59 GMT"},
	{-59011459200, "Fri, 01 Jan 0100 00:00:00 GMT"},
	{-30610224001, "Tue, 31 Dec 0999 23:59:59 GMT"},
	{-30610224000, "Wed, 01 Jan 1000 00:00:00 GMT"},
	{-12187753077, "Sat, 15 Oct 1583 01:02:03 GMT"},
	{-2203891201, "Wed, 28 Feb 1900 23:59:59 GMT"},
	{-2203891200, "Thu, 01 Mar 1900 00:00:00 GMT"},
	{-1, "Wed, 31 Dec 1969 23:59:59 GMT"},
	{0, "Thu, 01 Jan 1970 00:00:00 GMT"},
	{59, "Thu, 01 Jan 1970 00:00:59 GMT"},
	{3599, "Thu, 01 Jan 1970 00:59:59 GMT"},
	{32949, "Thu, 01 Jan 1970 09:09:09 GMT"},
	{36610, "Thu, 01 Jan 1970 10:10:10 GMT"},
	{86399, "Thu, 01 Jan 1970 23:59:59 GMT"},
	{86400, "Fri, 02 Jan 1970 00:00:00 GMT"},
	{31535999, "Thu, 31 Dec 1970 23:59:59 GMT"},
	{31536000, "Fri, 01 Jan 1971 00:00:00 GMT"},
	{951782400, "Tue, 29 Feb 2000 00:00:00 GMT"},
	{951827696, "Tue, 29 Feb 2000 12:34:56 GMT"},
	{951868800, "Wed, 01 Mar 2000 00:00:00 GMT"},
	{1641600000, "Sat, 08 Jan 2022 00:00:00 GMT"},
	{1672708301, "Tue, 03 Jan 2023 01:11:41 GMT"},
	{1675563162, "Sun, 05 Feb 2023 02:12:42 GMT"},
	{1678158823, "Tue, 07 Mar 2023 03:13:43 GMT"},
	{1681013684, "Sun, 09 Apr 2023 04:14:44 GMT"},
	{1683782145, "Thu, 11 May 2023 05:15:45 GMT"},
	{1686637006, "Tue, 13 Jun 2023 06:16:46 GMT"},
	{1689405467, "Sat, 15 Jul 2023 07:17:47 GMT"},
	{1692260328, "Thu, 17 Aug 2023 08:18:48 GMT"},
	{1695115189, "Tue, 19 Sep 2023 09:19:49 GMT"},
	{1697883650, "Sat, 21 Oct 2023 10:20:50 GMT"},
	{1700738511, "Thu, 23 Nov 2023 11:21:51 GMT"},
	{1703506972, "Mon, 25 Dec 2023 12:22:52 GMT"},
	{1709164799, "Wed, 28 Feb 2024 23:59:59 GMT"},
	{1709251199, "Thu, 29 Feb 2024 23:59:59 GMT"},
	{1735689599, "Tue, 31 Dec 2024 23:59:59 GMT"},
	{2147483647, "Tue, 19 Jan 2038 03:14:07 GMT"},
	{2147483648, "Tue, 19 Jan 2038 03:14:08 GMT"},
	{4294967296, "Sun, 07 Feb 2106 06:28:16 GMT"},
	{253370764800, "Fri, 01 Jan 9999 00:00:00 GMT"},
	{253402214400, "Fri, 31 Dec 9999 00:00:00 GMT"},
	{253402300799, "Fri, 31 Dec 9999 23:59:59 GMT"},
}

// P4.1, P4.3: known times.
func TestFormat(t *testing.T) {
	for _, c := range known {
		if got, e := rfc822.Format(c.t); got != c.s || e != api.OK {
			t.Errorf("Format(%d) = %q, %v; want %q", c.t, got, e, c.s)
		}
		wantTime(t, c.s, c.t)
		wantTime(t, strings.ToLower(c.s), c.t)
		wantTime(t, strings.ToUpper(c.s), c.t)
	}
	wantTime(t, known[0].s, api.MinTime)
	wantTime(t, known[len(known)-1].s, api.MaxTime)
}

// P4.1: times outside of the years 1 to 9999, next to them and far away, have no form.
func TestFormatOutside(t *testing.T) {
	var outside []int64
	for i := range int64(2 * day) {
		outside = append(outside, api.MinTime-1-i, api.MaxTime+1+i)
	}
	for _, n := range []int64{
		math.MinInt64, math.MinInt64 + 1, math.MinInt64 - api.MinTime - 1, math.MinInt64 - api.MinTime, math.MinInt64 + api.MaxTime,
		-1 << 62, -1 << 48, -1 << 40, -1e12, -1e11, -62167219200, 253402300800, 1e12, 1 << 40, 1 << 48, 1 << 62,
		math.MaxInt64 + api.MinTime, math.MaxInt64 + api.MinTime + 1, math.MaxInt64 - api.MaxTime, math.MaxInt64 - 1, math.MaxInt64,
	} {
		outside = append(outside, n)
	}
	for _, n := range outside {
		if got, e := rfc822.Format(n); got != "" || e != api.ErrRange {
			t.Fatalf("Format(%d) = %q, %v; want %v", n, got, e, api.ErrRange)
		}
	}
}

// P4.1, P4.3: every date, at changing times of the day; Parse inverts Format. There are many, so they are checked in parts at the same time.
func TestEveryDate(t *testing.T) {
	const (
		step  = 75619 // less than a day, so that no date is left out
		parts = 8
	)
	for part := range int64(parts) {
		t.Run(strconv.FormatInt(part, 10), func(t *testing.T) {
			t.Parallel()
			for n := api.MinTime + part*step; n <= api.MaxTime && !t.Failed(); n += parts * step {
				got, e := rfc822.Format(n)
				if want := time.Unix(n, 0).UTC().Format(layout); got != want || e != api.OK {
					t.Errorf("Format(%d) = %q, %v; want %q", n, got, e, want)
				}
				wantTime(t, got, n)
			}
		})
	}
}

// P4.1, P4.3: every second of a first, a last and a leap day.
func TestEverySecond(t *testing.T) {
	for _, c := range []struct {
		date  string
		first int64
	}{{"Mon, 01 Jan 0001", api.MinTime}, {"Wed, 31 Dec 1969", -day}, {"Thu, 01 Jan 1970", 0}, {"Tue, 29 Feb 2000", 951782400}, {"Fri, 31 Dec 9999", api.MaxTime - day + 1}} {
		for i := range day {
			s := fmt.Sprintf("%s %02d:%02d:%02d GMT", c.date, i/3600, i/60%60, i%60)
			if got, e := rfc822.Format(c.first + int64(i)); got != s || e != api.OK {
				t.Fatalf("Format(%d) = %q, %v; want %q", c.first+int64(i), got, e, s)
			}
			wantTime(t, s, c.first+int64(i))
		}
	}
}

// P4.2: the variants of the form.
func TestParse(t *testing.T) {
	for _, c := range []struct {
		s    string
		want int64
	}{
		{"8 jan 22 01:30 +0130", 1641600000},
		{"08 Jan 2022 00:00 GMT", 1641600000},
		{"8 Jan 2022 00:00:00 Z", 1641600000},
		{"sat, 8 JAN 22 00:00 uT", 1641600000},
		{"Tue, 08 Jan 2022 00:00:00 UTC", 1641600000},
		{"\n\tSat,\r\n 08   Jan\t2022\n00:00:00  GMT\n", 1641600000},
		{"7 Jan 22 22:00 -0200", 1641600000},
		{"07 Jan 2022 19:00 EST", 1641600000},
		{"07 Jan 2022 20:00 EDT", 1641600000},
		{"07 Jan 2022 18:00 CST", 1641600000},
		{"07 Jan 2022 19:00 CDT", 1641600000},
		{"07 Jan 2022 17:00 MST", 1641600000},
		{"07 Jan 2022 18:00 MDT", 1641600000},
		{"07 Jan 2022 16:00 PST", 1641600000},
		{"07 Jan 2022 17:00 PDT", 1641600000},
		{"1 Jan 1970 00:00 +0000", 0},
		{"1 Jan 1970 00:00 -0000", 0},
		{"1 Jan 1970 00:00 +0001", -60},
		{"1 Jan 1970 00:00 -0001", 60},
		{"1 Jan 1970 00:00 +0100", -3600},
		{"1 Jan 1970 00:00 -0100", 3600},
		{"1 Jan 1970 00:00 +2359", -86340},
		{"1 Jan 1970 00:00 -2359", 86340},
		{"1 Jan 1970 23:59:59 +2359", 59},
		{"1 Jan 00 00:00 GMT", 946684800},
		{"31 Dec 49 23:59:59 GMT", 2524607999},
		{"1 Jan 50 00:00 GMT", -631152000},
		{"31 Dec 99 23:59:59 GMT", 946684799},
		{"29 Feb 24 23:30 -0100", 1709253000},
		{"1 Mar 24 00:30 +0100", 1709249400},
		{"31 Dec 21 23:00 -0200", 1640998800},
		{"1 Jan 0050 00:00 GMT", -60589296000},
	} {
		wantTime(t, c.s, c.want)
		compare(t, c.s)
	}
}

// P4.2, P4.3: names of days in any case; none of them, and whether there is one, influences the result.
func TestEveryWeekday(t *testing.T) {
	for _, c := range known {
		_, rest, _ := strings.Cut(c.s, ", ")
		wantTime(t, rest, c.t)
		for _, name := range days {
			for _, s := range cases(name) {
				wantTime(t, s+", "+rest, c.t)
			}
		}
	}
	const rest = "08 Jan 2022 00:00:00 GMT"
	for _, name := range days {
		for _, s := range []string{
			name, name + " ,", name + ",,", "," + name, name + ".", name + ";", name + ":", name[:2] + ",", name[1:] + ",", name[:1] + ",", name + "x,", name + name + ",", "x" + name + ",",
			name + ", ,", ", " + name + ",", name + ", " + name + ",", name + ", " + name, name + "，", name + ",\x00", name + ",\u00A0",
		} {
			wantError(t, s+" "+rest, api.ErrDate)
		}
		wantError(t, name+","+rest, api.ErrDate)
		wantError(t, rest+" "+name+",", api.ErrDate)
		wantError(t, name+",", api.ErrDate)
	}
	for _, s := range []string{",", ", ,", "Sunday,", "Tues,", "Thur,", "Wednesday,", "Son,", "Die,", "Jan,", "GMT,", "1,", "Sun,Mon,", "sun-mon,", "\xFFun,"} {
		wantError(t, s+" "+rest, api.ErrDate)
	}
}

// P4.2: names of months in any case.
func TestEveryMonth(t *testing.T) {
	for i, name := range months {
		want := time.Date(2023, time.Month(i+1), 28, 1, 2, 3, 0, time.UTC).Unix()
		for _, s := range cases(name) {
			wantTime(t, "28 "+s+" 2023 01:02:03 GMT", want)
			wantTime(t, "Mon, 28 "+s+" 23 01:02:03 GMT", want)
		}
		for _, s := range []string{
			name[:2], name[1:], name[:1], name + ".", name + ",", name + "x", "x" + name, name + name, name + "uary", name + "\x00", "\x00" + name, name + "\u0301", name[:1] + " " + name[1:],
			strconv.Itoa(i + 1), fmt.Sprintf("%02d", i+1), time.Month(i+1).String() + "x", name + "\xFF", name[:2] + "\xFF", "",
		} {
			wantError(t, "28 "+s+" 2023 01:02:03 GMT", api.ErrDate)
		}
	}
	for i := range 12 {
		// The English name of May is its abbreviation.
		if name := time.Month(i + 1).String(); name != "May" {
			wantError(t, "28 "+name+" 2023 01:02:03 GMT", api.ErrDate)
		}
	}
	for _, s := range []string{"Sun", "Mon", "Sat", "GMT", "Z", "Mai", "Okt", "Dez", "Sept", "Jän", "JFM", "Feb-", "anJ", "0", "00", "13"} {
		wantError(t, "28 "+s+" 2023 01:02:03 GMT", api.ErrDate)
	}
}

// P4.2: the zones that have names, in any case.
func TestEveryZoneName(t *testing.T) {
	for _, zone := range zones {
		for _, s := range cases(zone.name) {
			wantTime(t, "Sat, 08 Jan 2022 00:00:00 "+s, 1641600000-zone.hour*3600)
			wantTime(t, "8 Jan 22 00:00 "+s, 1641600000-zone.hour*3600)
		}
		for _, s := range []string{
			zone.name + ",", zone.name + ".", zone.name + "+", zone.name + "0", zone.name + "+0000", zone.name + "-0500", "+" + zone.name, "-" + zone.name, "(" + zone.name + ")", zone.name + zone.name,
			zone.name + " " + zone.name, zone.name + " +0000", "+0000 " + zone.name, zone.name + "\x00", zone.name + "\xFF", zone.name + "x", "x" + zone.name, zone.name + "\u00A0", zone.name[:1] + " " + zone.name[1:] + "T",
		} {
			wantError(t, "8 Jan 22 00:00 "+s, api.ErrDate)
		}
	}
}

// P4.2: all letters and all words of up to three letters in place of the zone.
func TestEveryZoneWord(t *testing.T) {
	words := []string{""}
	for range 3 {
		var longer []string
		for _, word := range words {
			for letter := 'a'; letter <= 'z'; letter++ {
				longer = append(longer, word+string(letter))
			}
		}
		for _, word := range longer {
			compare(t, "8 Jan 22 00:00 "+word)
			compare(t, "8 Jan 22 00:00 "+strings.ToUpper(word))
		}
		words = longer
	}
}

// P4.2: all numbers of four digits as zones, with both signs.
func TestEveryZoneNumber(t *testing.T) {
	for n := range 10000 {
		for _, sign := range []string{"+", "-"} {
			zone := fmt.Sprintf("%s%02d%02d", sign, n/100, n%100)
			ahead := int64(n/100*3600 + n%100*60)
			if sign == "-" {
				ahead = -ahead
			}
			if n/100 < 24 && n%100 < 60 {
				wantTime(t, "8 Jan 22 00:00 "+zone, 1641600000-ahead)
				wantTime(t, "Sat, 08 Jan 2022 00:00:00 "+zone, 1641600000-ahead)
			} else {
				wantError(t, "8 Jan 22 00:00 "+zone, api.ErrDate)
				wantError(t, "Sat, 08 Jan 2022 00:00:00 "+zone, api.ErrDate)
			}
		}
	}
	for _, s := range []string{
		"+", "-", "+0", "+00", "+000", "+00000", "-000", "-00000", "+01:30", "-01:30", "+1:30", "+01:3", "+01 30", "+ 0130", "- 0130", "0130", "0000", "+01-30", "+-130", "++130", "--130", "+013+", "+0x10", "+1e02", "+01_0", "*0130", ",0130",
		"−0130", "±0130", "+０130", "+013٠", "+0130Z", "+0130,", "Z0130", "+a130", "+013a", "+0130\x00", "+013\x00", "+013\xFF", "+:130", "+/130", "+013:", "+013/", "+01.5", ".0130", ".000Z", ".5+01",
	} {
		wantError(t, "8 Jan 22 00:00 "+s, api.ErrDate)
		wantError(t, "Sat, 08 Jan 2022 00:00:00 "+s, api.ErrDate)
	}
}

// P4.2, P4.3: white space of every kind, and many bytes of it, before, between and after the words; other characters are no white space.
func TestWhiteSpace(t *testing.T) {
	samples := [][]string{
		{"Sat,", "08", "Jan", "2022", "00:00:00", "GMT"},
		{"8", "jan", "22", "01:30", "+0130"},
	}
	white := []string{strings.Repeat(" ", 1<<16), strings.Repeat("\r\n", 1000), strings.Repeat(" \n", 100)}
	for n := range 256 {
		const bytes = " \t\n\r"
		white = append(white, bytes[n%4:n%4+1], string([]byte{bytes[n%4], bytes[n/4%4]}), string([]byte{bytes[n%4], bytes[n/4%4], bytes[n/16%4], bytes[n/64]}))
	}
	other := []string{"\v", "\f", "\x00", "\x1F", "\b", "\x7F", "\x85", "\xA0", "\u0085", "\u00A0", "\u1680", "\u2003", "\u2028", "\u200B", "\u202F", "\u3000", "\uFEFF", "_", "-", ",", "+", "/", "\\n", "&#32;", "%20"}
	for _, words := range samples {
		for _, w := range white {
			wantTime(t, strings.Join(words, w), 1641600000)
			wantTime(t, w+strings.Join(words, w)+w, 1641600000)
		}
		for i := range len(words) + 1 {
			before, after := strings.Join(words[:i], " "), strings.Join(words[i:], " ")
			for _, w := range white {
				wantTime(t, before+w+after, 1641600000)
				wantTime(t, before+w+" "+after, 1641600000)
			}
			for _, o := range other {
				wantError(t, before+o+after, api.ErrDate)
				wantError(t, before+" "+o+" "+after, api.ErrDate)
			}
			if i > 0 && i < len(words) {
				wantError(t, before+after, api.ErrDate)
			}
		}
	}
	for _, w := range white {
		wantError(t, w, api.ErrDate)
	}
}

// P4.2: each word left out, doubled, or in the place of another one, and words that are too many.
func TestWords(t *testing.T) {
	for _, s := range []string{"Sat, 08 Jan 2022 00:00:00 GMT", "Thu, 8 jan 22 01:30 +0130", "31 Dec 9999 23:59:59 PST"} {
		words := strings.Split(s, " ")
		for i := range words {
			without := slices.Delete(slices.Clone(words), i, i+1)
			if s[0] < 'A' || i > 0 {
				wantError(t, strings.Join(without, " "), api.ErrDate)
			}
			for j := range words {
				other := slices.Clone(words)
				other[i], other[j] = other[j], other[i]
				compare(t, strings.Join(other, " "))
				if i != j {
					wantError(t, strings.Join(other, " "), api.ErrDate)
				}
				wantError(t, strings.Join(slices.Insert(slices.Clone(words), i, words[j]), " "), api.ErrDate)
			}
			wantError(t, strings.Join(words[:i], " "), api.ErrDate)
		}
		for _, more := range []string{"x", "GMT", "Z", "0", ",", "Sat,", "+0000", s, strings.Repeat("x ", 1<<20)} {
			wantError(t, s+" "+more, api.ErrDate)
			wantError(t, "Sun, "+s+" "+more, api.ErrDate)
		}
	}
}

// P4.2: the form is checked before the range of the time, and the zone can leave this range.
func TestRange(t *testing.T) {
	for hour := range 24 {
		for min := range 60 {
			ahead := int64(hour*3600 + min*60)
			zone := fmt.Sprintf("%02d%02d", hour, min)
			if ahead == 0 {
				continue
			}
			wantError(t, "Mon, 01 Jan 0001 00:00:00 +"+zone, api.ErrRange)
			wantError(t, "31 Dec 9999 23:59:59 -"+zone, api.ErrRange)
			wantTime(t, "1 Jan 0001 00:00 -"+zone, api.MinTime+ahead)
			wantTime(t, "Fri, 31 Dec 9999 23:59:59 +"+zone, api.MaxTime-ahead)
			// The local time of a bound of the range, and the ones next to it.
			low, high := time.Unix(api.MinTime+ahead, 0).UTC(), time.Unix(api.MaxTime-ahead, 0).UTC()
			const local = "Mon, 2 Jan 2006 15:04:05 "
			wantTime(t, low.Format(local)+"+"+zone, api.MinTime)
			wantTime(t, high.Format(local)+"-"+zone, api.MaxTime)
			wantTime(t, low.Add(time.Second).Format(local)+"+"+zone, api.MinTime+1)
			wantTime(t, high.Add(-time.Second).Format(local)+"-"+zone, api.MaxTime-1)
			wantError(t, low.Add(-time.Second).Format(local)+"+"+zone, api.ErrRange)
			wantError(t, high.Add(time.Second).Format(local)+"-"+zone, api.ErrRange)
		}
	}
	for _, zone := range zones {
		last := time.Unix(api.MaxTime+zone.hour*3600, 0).UTC()
		wantTime(t, last.Format("2 Jan 2006 15:04:05 ")+zone.name, api.MaxTime)
		wantTime(t, "1 Jan 0001 00:00 "+zone.name, api.MinTime-zone.hour*3600)
		if zone.hour < 0 {
			wantError(t, last.Add(time.Second).Format("2 Jan 2006 15:04:05 ")+zone.name, api.ErrRange)
			wantError(t, "31 Dec 9999 23:59:59 "+zone.name, api.ErrRange)
		}
	}
	for _, s := range []string{
		"1 Jan 0001 00:00 +2400", "1 Jan 0001 00:00 +0060", "1 Jan 0001 00:00:60 +0001", "0 Jan 0001 00:00 +0001", "31 Dec 0000 23:59:59 -0001", "31 Dec 0000 23:59:59 GMT",
		"1 Jan 10000 00:00 +0001", "31 Dec 9999 23:59:60 -0001", "31 Dec 9999 24:00 +0001", "32 Dec 9999 00:00 +2359", "31 Dec 9999 23:59:59 -0001 x", "x 31 Dec 9999 23:59:59 -0001", "31 Dec 9999 23:59:59 AST",
	} {
		wantError(t, s, api.ErrDate)
	}
}

// P4.2: all years with four digits, with first and last days and those around 29 February.
func TestEveryYear(t *testing.T) {
	for year := range 10000 {
		for _, date := range []string{"0 Jan", "1 Jan", "31 Jan", "32 Jan", "28 Feb", "29 Feb", "30 Feb", "1 Mar", "31 Apr", "30 Dec", "31 Dec", "32 Dec"} {
			compare(t, fmt.Sprintf("%s %04d 00:00 GMT", date, year))
		}
	}
}

// P4.2: all years with two digits, and years with another number of digits.
func TestShortYears(t *testing.T) {
	for n := range 100 {
		year := 1900 + n
		if n < 50 {
			year = 2000 + n
		}
		for _, date := range []string{"1 Jan", "31 Dec", "28 Feb", "01 Mar"} {
			want, e := rfc822.Parse(fmt.Sprintf("%s %d 12:00 GMT", date, year))
			if e != api.OK || time.Unix(want, 0).UTC().Year() != year {
				t.Errorf("Parse of %s %d = %d, %v", date, year, want, e)
			}
			wantTime(t, fmt.Sprintf("%s %02d 12:00 GMT", date, n), want)
			wantTime(t, fmt.Sprintf("Sun, %s %02d 12:00:00 +0000", date, n), want)
		}
		compare(t, fmt.Sprintf("29 Feb %02d 12:00 GMT", n))
	}
	for n := range 1000 {
		wantError(t, fmt.Sprintf("1 Jan %03d 12:00 GMT", n), api.ErrDate)
		wantError(t, fmt.Sprintf("1 Jan 20%03d 12:00 GMT", n), api.ErrDate)
		wantError(t, fmt.Sprintf("1 Jan 0%d 12:00 GMT", 1000+n), api.ErrDate)
	}
	for n := range 10 {
		wantError(t, fmt.Sprintf("1 Jan %d 12:00 GMT", n), api.ErrDate)
	}
	for _, s := range []string{"", "2", "+22", "-22", "+2", "-2", "2+", "2-", "2a", "a2", "aa", "'22", "22.", "22,", "2 2", "2\x00", "\x0022", "２２", "٢٢", "٢", "½", "é", "2_", "_2", "0x", "1e", "2:", ":2", "2/", "/2", "4:", "4/", "5/", "9:", "20 22", "2022.", "2O22", "202a", "a022", "+022", "-022", "202+", "2-22", "0x10", "1e03", "1_00", "202²", "20-1", "1-01", "----"} {
		wantError(t, "1 Jan "+s+" 12:00 GMT", api.ErrDate)
		wantError(t, "Fri, 1 Jan "+s+" 12:00 GMT", api.ErrDate)
	}
}

// P4.2: all numbers of one and two digits as days of every month, and days with another number of digits.
func TestEveryDay(t *testing.T) {
	for _, year := range []string{"0000", "0001", "1900", "2000", "2023", "2024", "9999", "00", "23", "24", "50", "99"} {
		for _, month := range months {
			for n := range 100 {
				compare(t, fmt.Sprintf("%d %s %s 12:00 +0100", n, month, year))
				compare(t, fmt.Sprintf("%02d %s %s 12:00 +0100", n, month, year))
				if n < 10 {
					compare(t, fmt.Sprintf("Sun, %d %s %s 12:00 +0100", n, month, year))
				}
			}
		}
	}
	for n := range 1000 {
		wantError(t, fmt.Sprintf("%03d Jan 2022 12:00 GMT", n), api.ErrDate)
		wantError(t, fmt.Sprintf("%04d Jan 2022 12:00 GMT", n), api.ErrDate)
	}
	for _, s := range []string{"+", "-", "+8", "-8", "8.", "8,", "8+", "8-", "a", "a8", "8a", "8th", "1st", "'8", "0x8", "8:", ":8", "/8", "8/", "\x008", "8\x00", "\xFF", "\xFF8", "é", "８", "٨", "²", "_8", "8_", "1e0", ",8", "1 8", "T", "08.", "00"} {
		wantError(t, s+" Jan 2022 12:00 GMT", api.ErrDate)
		wantError(t, "Sat, "+s+" Jan 2022 12:00 GMT", api.ErrDate)
	}
}

// P4.2: all numbers of two digits as hours, minutes and seconds; the second may be missing.
func TestEveryTimeOfDay(t *testing.T) {
	for n := range 10000 {
		hour, min := n/100, n%100
		s := fmt.Sprintf("1 Jan 1970 %02d:%02d", hour, min)
		ok := hour < 24 && min < 60
		if ok {
			wantTime(t, s+" GMT", int64(hour*3600+min*60))
		} else {
			wantError(t, s+" GMT", api.ErrDate)
		}
		for sec := range 100 {
			with := fmt.Sprintf("%s:%02d GMT", s, sec)
			if ok && sec < 60 {
				wantTime(t, with, int64(hour*3600+min*60+sec))
			} else {
				wantError(t, with, api.ErrDate)
			}
		}
	}
	for _, s := range []string{
		"", "0", "00", "00:", ":00", ":", "::", "00:0", "0:00", "000:00", "00:000", "0:0", "00:00:", ":00:00", "00:00:0", "0:00:00", "00:0:00", "00:00:000", "000:00:00", "00:000:00", "0:000:00", "00:0:000", "00:00:00:00", "00:00:00:", "00::00", "00::00:00", "00:00::00",
		"0000", "000000", "00.00", "00:00.00", "00-00", "00-00-00", "00:00-00", "00;00", "00：00", "00:00,", "00:00:00,", "00:00.5", "00:00:00.5", "00:00:00.", "00:00Z", "00:00:00Z", "00:00+0000", "00:00:00+00:00", "00 :00", "00: 00", "00:00 :00", "00:00: 00", "00 00 00",
		"+0:00", "-0:00", "00:+0", "00:-0", "00:00:+0", "00:00:-0", "0a:00", "a0:00", "00:0a", "00:a0", "00:00:0a", "00:00:a0", "12:00pm", "12:00am", "0x:00", "0_:00", "T00:00", "００:00", "٠٠:00", "0²:00", "0:0:0", "0:0:00", "00:0:0", "\x0000:00", "00:00\x00", "0\x00:00", "00:0\xFF", "00:00:0\xFF", ":00:00:0", "0:00:000", "00000:00", "24:00", "23:60", "23:59:60",
	} {
		wantError(t, "1 Jan 1970 "+s+" GMT", api.ErrDate)
		wantError(t, "Thu, 1 Jan 70 "+s+" +0000", api.ErrDate)
	}
}

// P4.2: letters that are not ASCII, but turn into or are compared like the ASCII letter in their place.
func TestOtherLetters(t *testing.T) {
	var like []rune
	for r := rune(0x80); r <= unicode.MaxRune; r++ {
		for _, x := range []rune{unicode.ToLower(r), unicode.ToUpper(r), unicode.ToTitle(r), unicode.SimpleFold(r)} {
			if x < 0x80 && !slices.Contains(like, r) {
				like = append(like, r)
			}
		}
	}
	if len(like) < 3 {
		t.Fatalf("there are only %d such letters", len(like))
	}
	for letter := 'A'; letter <= 'Z'; letter++ {
		like = append(like, letter-'A'+0xFF21, letter-'A'+0xFF41, letter+0x80, letter+0x100, letter+0xA0, letter+0x20+0x80)
	}
	check := func(format, name string) {
		for i := range len(name) {
			for _, r := range like {
				wantError(t, fmt.Sprintf(format, name[:i]+string(r)+name[i+1:]), api.ErrDate)
			}
			for _, c := range []byte{name[i] ^ 0x80, name[i] ^ 0xA0, name[i] &^ 0x40, name[i] &^ 0x60} {
				wantError(t, fmt.Sprintf(format, name[:i]+string([]byte{c})+name[i+1:]), api.ErrDate)
			}
		}
	}
	for _, name := range days {
		check("%s, 8 Jan 2022 00:00 GMT", name)
	}
	for _, name := range months {
		check("Sat, 8 %s 2022 00:00 GMT", name)
	}
	for _, zone := range zones {
		check("8 Jan 2022 00:00 %s", zone.name)
	}
}

// P4.2: strings that have little or nothing of the form.
func TestNoDate(t *testing.T) {
	for _, s := range []string{
		"", " ", "\n", "\t \r\n", ",", "x", "Z", "Sat,", "Sat, ", "8", "Jan", "GMT", "0 0 0 0 0", "- - - - -", ", , , , ,", "a b c d e", "a b c d e f", "Sat, a b c d e", "\x00", "\xFF", "é",
		"2022-01-08T00:00:00Z", "2022-01-08 00:00:00", "2022 Jan 8 00:00 GMT", "Jan 8 2022 00:00 GMT", "Sat Jan  8 00:00:00 2022", "Sat Jan 8 00:00:00 UTC 2022", "8-Jan-2022 00:00 GMT", "Saturday, 08-Jan-22 00:00:00 GMT", "08/01/2022 00:00 GMT",
		"8 Jan 2022 01:30", "32 Jan 2022 01:30 GMT", "30 Feb 2022 01:30 GMT", "31 Apr 2022 01:30 GMT", "29 Feb 1900 01:30 GMT", "29 Feb 23 01:30 GMT", "0 Jan 2022 01:30 GMT", "00 Jan 2022 01:30 GMT",
		"8 Jan 2022 GMT 01:30", "8 Jan 01:30 2022 GMT", "8 Jan 2022 01:30 (GMT)", "8 Jan 2022 01:30 GMT (x)", "8 Jan 2022 01:30 GMT;", "\"8 Jan 2022 01:30 GMT\"", "<8 Jan 2022 01:30 GMT>", "\uFEFF8 Jan 2022 01:30 GMT", "8 Jan 2022 01:30 GMT\x00",
		strings.Repeat("9", 1<<20), strings.Repeat(" 9", 1<<20), strings.Repeat("Sat, ", 1<<16), strings.Repeat("8 Jan 2022 01:30 GMT ", 2),
	} {
		wantError(t, s, api.ErrDate)
	}
}

// samples have all the parts of the form, with different digits.
var samples = []string{
	"Sat, 08 Jan 2022 01:23:45 GMT", "8 jan 22 01:30 +0130", "tUE,\t29 FEB\n2024  23:59 -2359", " Sun, 1 Sep 50 12:34:56 pdt ", "31 Dec 49 07:06 z", "Mon, 10 Oct 1066 10:00:00 Ut",
	"1 Jan 0001 00:00 +0001", "Mon, 01 Jan 0001 00:00:00 -0000", "31 Dec 9999 23:59:59 UTC", "Fri, 31 Dec 9999 23:59:59 EST",
}

// P4.2: any byte in place of any other one, or before it, and each part left out or doubled, or a byte in the place of the next one.
func TestEveryChange(t *testing.T) {
	for _, s := range samples {
		for i := range len(s) + 1 {
			for b := range 256 {
				compare(t, s[:i]+string([]byte{byte(b)})+s[i:])
				if i < len(s) {
					compare(t, s[:i]+string([]byte{byte(b)})+s[i+1:])
				}
			}
			compare(t, s[:i])
			compare(t, s[i:])
			for j := i + 1; j <= len(s); j++ {
				compare(t, s[:i]+s[j:])
				compare(t, s[:j]+s[i:])
			}
			if i+2 <= len(s) {
				compare(t, s[:i]+s[i+1:i+2]+s[i:i+1]+s[i+2:])
			}
		}
	}
}

// P1, P2: calls at the same time do not influence each other.
func TestConcurrentCalls(t *testing.T) {
	type answer struct {
		s    string
		n    int64
		e, f api.Errno
	}
	ask := func(n int64) answer {
		var a answer
		a.s, a.e = rfc822.Format(n)
		a.n, a.f = rfc822.Parse(a.s)
		return a
	}
	want := map[int64]answer{}
	for n := int64(api.MinTime - 10*day); n <= api.MaxTime+10*day; n += 12345 * 6789 {
		want[n] = ask(n)
	}
	var wg sync.WaitGroup
	for range 4 {
		wg.Go(func() {
			for n, a := range want {
				if got := ask(n); got != a {
					t.Errorf("%d: %v, then %v", n, a, got)
				}
			}
		})
	}
	wg.Wait()
}

// FuzzParse checks the promises on arbitrary strings and numbers.
func FuzzParse(f *testing.F) {
	for i, s := range samples {
		f.Add(s, int64(i))
	}
	f.Add("", int64(api.MinTime-1))
	f.Add("Sat , 8 Jan 2022 00:00 GMT", int64(api.MaxTime+1))
	f.Add("8 January 022 0:00 +01:30", int64(math.MinInt64))
	f.Fuzz(func(t *testing.T, s string, n int64) {
		compare(t, s)
		got, e := rfc822.Format(n)
		if n < api.MinTime || n > api.MaxTime {
			if got != "" || e != api.ErrRange {
				t.Errorf("Format(%d) = %q, %v", n, got, e)
			}
		} else if want := time.Unix(n, 0).UTC().Format(layout); got != want || e != api.OK {
			t.Errorf("Format(%d) = %q, %v; want %q", n, got, e, want)
		} else {
			wantTime(t, got, n)
		}
	})
}
