package rfc3339_test

import (
	"fmt"
	"math"
	"regexp"
	"strconv"
	"strings"
	"sync"
	"testing"
	"time"

	"feedvault/api"
	"feedvault/rfc3339"
)

const day = 86400

var form = regexp.MustCompile(`^([0-9]{4})-([0-9]{2})-([0-9]{2})[Tt]([0-9]{2}):([0-9]{2}):([0-9]{2})(?:\.[0-9]+)?(?:[Zz]|([-+])([0-9]{2}):([0-9]{2}))$`)

// parse is the chapter's definition of Parse, with the calendar of package time.
func parse(s string) (int64, api.Errno) {
	groups := form.FindStringSubmatch(s)
	if groups == nil {
		return 0, api.ErrDate
	}
	var n [10]int
	for i, digits := range groups {
		n[i], _ = strconv.Atoi(digits)
	}
	date := time.Date(n[1], time.Month(n[2]), n[3], n[4], n[5], n[6], 0, time.UTC)
	// Package time carries what is too much in one part over to the next one.
	same := date.Year() == n[1] && int(date.Month()) == n[2] && date.Day() == n[3] && date.Hour() == n[4] && date.Minute() == n[5] && date.Second() == n[6]
	if !same || n[1] == 0 || n[8] > 23 || n[9] > 59 {
		return 0, api.ErrDate
	}
	offset := int64(n[8]*3600 + n[9]*60)
	if groups[7] == "-" {
		offset = -offset
	}
	t := date.Unix() - offset
	if t < api.MinTime || t > api.MaxTime {
		return 0, api.ErrRange
	}
	return t, api.OK
}

func wantTime(t *testing.T, s string, want int64) {
	t.Helper()
	if got, e := rfc3339.Parse(s); got != want || e != api.OK {
		t.Errorf("Parse(%q) = %d, %v; want %d", s, got, e, want)
	}
}

func wantError(t *testing.T, s string, want api.Errno) {
	t.Helper()
	if got, e := rfc3339.Parse(s); got != 0 || e != want {
		t.Errorf("Parse(%q) = %d, %v; want 0, %v", s, got, e, want)
	}
}

// compare compares Parse with the definition.
func compare(t *testing.T, s string) {
	t.Helper()
	want, wantE := parse(s)
	if got, e := rfc3339.Parse(s); got != want || e != wantE {
		t.Errorf("Parse(%q) = %d, %v; want %d, %v", s, got, e, want, wantE)
	}
}

// known are times and their forms.
var known = []struct {
	t int64
	s string
}{
	{-62135596800, "0001-01-01T00:00:00Z"},
	{-62135510401, "0001-01-01T23:59:59Z"},
	{-62104060801, "0001-12-31T23:59:59Z"},
	{-62104060800, "0002-01-01T00:00:00Z"},
	{-59011459201, "0099-12-31T23:59:59Z"},
	{-59011459200, "0100-01-01T00:00:00Z"},
	{-30610224001, "0999-12-31T23:59:59Z"},
	{-30610224000, "1000-01-01T00:00:00Z"},
	{-12187753077, "1583-10-15T01:02:03Z"},
	{-2203891201, "1900-02-28T23:59:59Z"},
	{-2203891200, "1900-03-01T00:00:00Z"},
	{-1, "1969-12-31T23:59:59Z"},
	{0, "1970-01-01T00:00:00Z"},
	{59, "1970-01-01T00:00:59Z"},
	{3599, "1970-01-01T00:59:59Z"},
	{32949, "1970-01-01T09:09:09Z"},
	{36610, "1970-01-01T10:10:10Z"},
	{86399, "1970-01-01T23:59:59Z"},
	{86400, "1970-01-02T00:00:00Z"},
	{31535999, "1970-12-31T23:59:59Z"},
	{31536000, "1971-01-01T00:00:00Z"},
	{951782400, "2000-02-29T00:00:00Z"},
	{951827696, "2000-02-29T12:34:56Z"},
	{951868800, "2000-03-01T00:00:00Z"},
	{1641600000, "2022-01-08T00:00:00Z"},
	{1709164799, "2024-02-28T23:59:59Z"},
	{1709251199, "2024-02-29T23:59:59Z"},
	{1735689599, "2024-12-31T23:59:59Z"},
	{2147483647, "2038-01-19T03:14:07Z"},
	{2147483648, "2038-01-19T03:14:08Z"},
	{4294967296, "2106-02-07T06:28:16Z"},
	{253370764800, "9999-01-01T00:00:00Z"},
	{253402214400, "9999-12-31T00:00:00Z"},
	{253402300799, "9999-12-31T23:59:59Z"},
}

// P3.1, P3.3: known times, which are in ascending order.
func TestFormat(t *testing.T) {
	for i, c := range known {
		if got, e := rfc3339.Format(c.t); got != c.s || e != api.OK {
			t.Errorf("Format(%d) = %q, %v; want %q", c.t, got, e, c.s)
		}
		wantTime(t, c.s, c.t)
		wantTime(t, strings.ToLower(c.s), c.t)
		if i > 0 && known[i-1].s >= c.s {
			t.Errorf("%q is not before %q", known[i-1].s, c.s)
		}
	}
	wantTime(t, known[0].s, api.MinTime)
	wantTime(t, known[len(known)-1].s, api.MaxTime)
}

// P3.1: times outside of the years 1 to 9999, next to them and far away, have no form.
func TestFormatOutside(t *testing.T) {
	var outside []int64
	for i := range int64(2 * day) {
		outside = append(outside, api.MinTime-1-i, api.MaxTime+1+i)
	}
	for _, n := range []int64{
		math.MinInt64, math.MinInt64 + 1, math.MinInt64 - api.MinTime - 1, math.MinInt64 - api.MinTime, math.MinInt64 + api.MaxTime,
		-1 << 62, -1 << 48, -1 << 40, -1e12, -1e11, -62167219200, 253402300800, 1e12, 1 << 40, 1 << 48, 1 << 62,
		math.MaxInt64 + api.MinTime, math.MaxInt64 + api.MinTime + 1, math.MaxInt64 - api.MaxTime, math.MaxInt64 - 1, math.MaxInt64,
	} {
		outside = append(outside, n)
	}
	for _, n := range outside {
		if got, e := rfc3339.Format(n); got != "" || e != api.ErrRange {
			t.Fatalf("Format(%d) = %q, %v; want %v", n, got, e, api.ErrRange)
		}
	}
}

// P3.1, P3.3: every date, at changing times of the day; Parse inverts Format, and a later time has a greater form.
func TestEveryDate(t *testing.T) {
	const step = 75619 // less than a day, so that no date is left out
	before := ""
	for n := int64(api.MinTime); n <= api.MaxTime && !t.Failed(); n += step {
		got, e := rfc3339.Format(n)
		if want := time.Unix(n, 0).UTC().Format("2006-01-02T15:04:05Z"); got != want || e != api.OK {
			t.Errorf("Format(%d) = %q, %v; want %q", n, got, e, want)
		}
		if got <= before {
			t.Errorf("%q is not before %q", before, got)
		}
		before = got
		wantTime(t, got, n)
	}
}

// P3.1, P3.3: every second of a first, a last and a leap day.
func TestEverySecond(t *testing.T) {
	for _, c := range []struct {
		date  string
		first int64
	}{{"0001-01-01", api.MinTime}, {"1969-12-31", -day}, {"1970-01-01", 0}, {"2000-02-29", 951782400}, {"9999-12-31", api.MaxTime - day + 1}} {
		for i := range day {
			s := fmt.Sprintf("%sT%02d:%02d:%02dZ", c.date, i/3600, i/60%60, i%60)
			if got, e := rfc3339.Format(c.first + int64(i)); got != s || e != api.OK {
				t.Fatalf("Format(%d) = %q, %v; want %q", c.first+int64(i), got, e, s)
			}
			wantTime(t, s, c.first+int64(i))
		}
	}
}

// P3.2: the variants of the form.
func TestParse(t *testing.T) {
	for _, c := range []struct {
		s    string
		want int64
	}{
		{"1970-01-01t00:00:00Z", 0},
		{"1970-01-01T00:00:00z", 0},
		{"1970-01-01T00:00:00+00:00", 0},
		{"1970-01-01T00:00:00-00:00", 0},
		{"1970-01-01T00:00:00+00:01", -60},
		{"1970-01-01T00:00:00-00:01", 60},
		{"1970-01-01T00:00:00+01:00", -3600},
		{"1970-01-01T00:00:00-01:00", 3600},
		{"1970-01-01T00:00:00+00:59", -3540},
		{"1970-01-01T00:00:00+23:00", -82800},
		{"1970-01-01T00:00:00+23:59", -86340},
		{"1970-01-01T00:00:00-23:59", 86340},
		{"1970-01-01T23:59:59+23:59", 59},
		{"2022-01-08T01:30:00.5+01:30", 1641600000},
		{"2022-01-08t01:30:00+01:30", 1641600000},
		{"2022-01-07T22:00:00-02:00", 1641600000},
		{"2024-02-29T23:30:00-01:00", 1709253000},
		{"2024-03-01T00:30:00+01:00", 1709249400},
		{"2021-12-31T23:00:00-02:00", 1640998800},
	} {
		wantTime(t, c.s, c.want)
	}
}

// P3.2, P3.3: a fraction of any length and value makes no difference.
func TestFraction(t *testing.T) {
	fractions := []string{".0123456789", ".99999999999999999999", ".000000000", ".9223372036854775808", "." + strings.Repeat("0", 1<<16), "." + strings.Repeat("9", 1<<20)}
	for i := range 1000 {
		fractions = append(fractions, fmt.Sprintf(".%d", i), fmt.Sprintf(".%03d", i))
	}
	for _, head := range []string{"1970-01-01T00:00:00", "2022-01-08t01:30:00", "0001-01-01T00:00:00", "9999-12-31T23:59:59"} {
		for _, offset := range []string{"Z", "z", "+00:00", "+01:30", "-01:30", "-23:59"} {
			want, wantE := rfc3339.Parse(head + offset)
			for _, fraction := range fractions {
				if got, e := rfc3339.Parse(head + fraction + offset); got != want || e != wantE {
					t.Fatalf("Parse(%.50q) = %d, %v; want %d, %v", head+fraction+offset, got, e, want, wantE)
				}
			}
			for _, fraction := range []string{".", "..", "..5", ".5.", ".5.5", ",5", ",", ":5", ".-5", ".+5", ".5 ", ". 5", " .5", ".a", ".5a", ".５", ".５5", ".5５", ".٣", "5", "5.", "50.5", ".5e1", ".0x1", ".1_0", ".\x00", ".5\x00", ".\xB5"} {
				wantError(t, head+fraction+offset, api.ErrDate)
			}
		}
		for _, fraction := range []string{".", ".5", ".55"} {
			wantError(t, head+fraction, api.ErrDate)
		}
	}
}

// P3.2: the form is checked before the range of the time, and the offset can leave this range.
func TestRange(t *testing.T) {
	for hour := range 24 {
		for min := range 60 {
			ahead := int64(hour*3600 + min*60)
			offset := fmt.Sprintf("%02d:%02d", hour, min)
			if ahead == 0 {
				continue
			}
			wantError(t, "0001-01-01T00:00:00+"+offset, api.ErrRange)
			wantError(t, "9999-12-31T23:59:59-"+offset, api.ErrRange)
			wantTime(t, "0001-01-01T00:00:00-"+offset, api.MinTime+ahead)
			wantTime(t, "9999-12-31T23:59:59+"+offset, api.MaxTime-ahead)
			// The local time of a bound of the range, and the ones just outside.
			low, high := time.Unix(api.MinTime+ahead, 0).UTC(), time.Unix(api.MaxTime-ahead, 0).UTC()
			const local = "2006-01-02T15:04:05"
			wantTime(t, low.Format(local)+"+"+offset, api.MinTime)
			wantTime(t, high.Format(local)+"-"+offset, api.MaxTime)
			wantTime(t, low.Add(time.Second).Format(local)+"+"+offset, api.MinTime+1)
			wantTime(t, high.Add(-time.Second).Format(local)+"-"+offset, api.MaxTime-1)
			wantError(t, low.Add(-time.Second).Format(local)+".9+"+offset, api.ErrRange)
			wantError(t, high.Add(time.Second).Format(local)+".0-"+offset, api.ErrRange)
		}
	}
	for _, s := range []string{
		"0001-01-01T00:00:00+24:00", "0001-01-01T00:00:00+00:60", "0001-01-01T00:00:60+00:01", "0001-01-00T00:00:00+00:01",
		"0000-12-31T23:59:59-00:01", "0000-12-31T23:59:59Z", "10000-01-01T00:00:00+00:01", "9999-12-31T23:59:60-00:01",
		"9999-12-31T24:00:00+00:01", "9999-12-32T00:00:00+23:59", "0001-01-01T00:00:00+00:01 ", "9999-12-31T23:59:59-00:01Z",
	} {
		wantError(t, s, api.ErrDate)
	}
}

// P3.2: all years with their first and last days and those around 29 February.
func TestEveryYear(t *testing.T) {
	for year := range 10000 {
		for _, date := range []string{"01-00", "01-01", "01-31", "01-32", "02-28", "02-29", "02-30", "03-01", "04-31", "12-30", "12-31", "12-32", "00-01", "13-01"} {
			compare(t, fmt.Sprintf("%04d-%sT00:00:00Z", year, date))
		}
	}
}

// P3.2: all numbers of two digits as months and days.
func TestEveryMonthAndDay(t *testing.T) {
	for _, year := range []string{"0000", "0001", "1900", "2000", "2023", "2024", "9999"} {
		for n := range 10000 {
			compare(t, fmt.Sprintf("%s-%02d-%02dT12:00:00+01:00", year, n/100, n%100))
		}
	}
}

// P3.2: all numbers of two digits as hours, minutes and seconds.
func TestEveryTimeOfDay(t *testing.T) {
	for n := range 1000000 {
		hour, min, sec := n/10000, n/100%100, n%100
		s := fmt.Sprintf("1970-01-01T%02d:%02d:%02dZ", hour, min, sec)
		if hour < 24 && min < 60 && sec < 60 {
			wantTime(t, s, int64(hour*3600+min*60+sec))
		} else {
			wantError(t, s, api.ErrDate)
		}
	}
}

// P3.2: all numbers of two digits as the hours and minutes of offsets.
func TestEveryOffset(t *testing.T) {
	for n := range 10000 {
		for _, sign := range []string{"+", "-"} {
			offset := fmt.Sprintf("%s%02d:%02d", sign, n/100, n%100)
			compare(t, "2022-01-08T00:00:00"+offset)
			compare(t, "2022-01-08T00:00:00.25"+offset)
		}
	}
}

// P3.2: groups with a digit less or more, other separators, and parts that are missing or too much.
func TestNoDate(t *testing.T) {
	for _, s := range []string{
		"", " ", "T", "Z", "-", "--T::Z", "0", "1970", "1970-01", "1970-01-01", "1970-01-01T", "1970-01-01T00", "1970-01-01T00:00", "1970-01-01T00:00:00",
		"1970-01-01Z", "1970-01-01T00Z", "1970-01-01T00:00Z", "T00:00:00Z", "00:00:00Z", "1970-01T00:00:00Z", "1970T00:00:00Z",
		"970-01-01T00:00:00Z", "70-01-01T00:00:00Z", "01970-01-01T00:00:00Z", "19700-01-01T00:00:00Z",
		"1970-1-01T00:00:00Z", "1970-001-01T00:00:00Z", "1970-01-1T00:00:00Z", "1970-01-001T00:00:00Z", "1970-1-1T00:00:00Z", "2022-1-8T00:00:00Z",
		"1970-01-01T0:00:00Z", "1970-01-01T000:00:00Z", "1970-01-01T00:0:00Z", "1970-01-01T00:000:00Z", "1970-01-01T00:00:0Z", "1970-01-01T00:00:000Z",
		"1970-01-01T00:00:00+0:00", "1970-01-01T00:00:00+000:00", "1970-01-01T00:00:00+00:0", "1970-01-01T00:00:00+00:000",
		"197-001-01T00:00:00Z", "19700-1-01T00:00:00Z", "1970-0-101T00:00:00Z", "1970-01-01T0:000:00Z", "1970-01-01T00:0:000Z", "1970-01-01T00:00:00+0:000",
		"19700101T000000Z", "1970-01-01T000000Z", "19700101T00:00:00Z", "1970/01/01T00:00:00Z", "1970:01:01T00:00:00Z", "1970-01-01T00-00-00Z", "1970-01-01T00.00.00Z",
		"1970-01-01 00:00:00Z", "1970-01-01_00:00:00Z", "1970-01-0100:00:00Z", "1970-01-01TT00:00:00Z", "1970-01-01T 00:00:00Z", "1970-01-01U00:00:00Z", "1970-01-01S00:00:00Z",
		"1970-01-01T00:00:00+", "1970-01-01T00:00:00-", "1970-01-01T00:00:00+00", "1970-01-01T00:00:00+00:", "1970-01-01T00:00:00+0000", "1970-01-01T00:00:00+00:00:00", "1970-01-01T00:00:00+00-00",
		"1970-01-01T00:00:0000:00", "1970-01-01T00:00:00 00:00", "1970-01-01T00:00:00*00:00", "1970-01-01T00:00:00,00:00", "1970-01-01T00:00:00.00:00", "1970-01-01T00:00:00−00:00", "1970-01-01T00:00:00±00:00",
		"1970-01-01T00:00:00ZZ", "1970-01-01T00:00:00Z+00:00", "1970-01-01T00:00:00+00:00Z", "1970-01-01T00:00:00UTC", "1970-01-01T00:00:00GMT", "1970-01-01T00:00:00A", "1970-01-01T00:00:00Y",
		" 1970-01-01T00:00:00Z", "1970-01-01T00:00:00Z ", "1970-01-01T00:00:00Z\n", "\t1970-01-01T00:00:00Z", "1970-01-01T00:00:00 Z", "1970-01-01T00:00:00Z\x00", "\x001970-01-01T00:00:00Z", "\uFEFF1970-01-01T00:00:00Z",
		"+1970-01-01T00:00:00Z", "-1970-01-01T00:00:00Z", "+970-01-01T00:00:00Z", "-970-01-01T00:00:00Z", "1970-+1-01T00:00:00Z", "1970--1-01T00:00:00Z", "1970-01-+1T00:00:00Z", "1970-01-01T+0:00:00Z", "1970-01-01T-0:00:00Z", "1970-01-01T00:00:+0Z", "1970-01-01T00:00:00+-1:00", "1970-01-01T00:00:00++1:00", "1970-01-01T00:00:00+00:-0",
		"1_70-01-01T00:00:00Z", "0x10-01-01T00:00:00Z", "1e03-01-01T00:00:00Z", " 970-01-01T00:00:00Z", "1970- 1-01T00:00:00Z",
		"１970-01-01T00:00:00Z", "197０-01-01T00:00:00Z", "1970‐01‐01T00:00:00Z", "1970-01-01T00：00：00Z", "1970-01-01Ｔ00:00:00Z", "1970-01-01T00:00:00Ｚ", "1970-٠١-01T00:00:00Z",
		"0000-01-01T00:00:00Z", "1970-00-01T00:00:00Z", "1970-13-01T00:00:00Z", "1970-01-00T00:00:00Z", "1970-01-32T00:00:00Z", "1970-04-31T00:00:00Z", "1970-02-29T00:00:00Z", "1900-02-29T00:00:00Z", "2000-02-30T00:00:00Z",
		"1970-01-01T24:00:00Z", "1970-01-01T00:60:00Z", "1970-01-01T00:00:60Z", "2022-01-08T00:00:60Z", "2016-12-31T23:59:60Z", "1970-01-01T00:00:00+24:00", "1970-01-01T00:00:00-24:00", "1970-01-01T00:00:00+00:60", "1970-01-01T00:00:00-23:60",
		"Sat, 08 Jan 2022 00:00:00 GMT", "2022-W01-6T00:00:00Z", "2022-008T00:00:00Z", "1641600000",
		strings.Repeat("9", 1<<20), strings.Repeat("-", 100), strings.Repeat("1970-01-01T00:00:00Z", 2),
	} {
		wantError(t, s, api.ErrDate)
	}
}

// samples have all the parts of the form, with different digits.
var samples = []string{
	"1970-01-01T00:00:00Z", "2024-02-29t23:59:58z", "1234-10-11T12:13:14+15:16", "2001-09-08t07:06:05.4-03:21", "1999-12-31T19:45:37.123456789Z",
	"0001-01-01T00:00:00-00:00", "0001-01-01T00:00:00+00:01", "9999-12-31T23:59:59Z", "9999-12-31T23:59:59.9-00:01",
}

// P3.2: any byte in place of any other one, or before it, and each byte left out or in the place of the next one.
func TestEveryChange(t *testing.T) {
	for _, s := range samples {
		for i := range len(s) + 1 {
			for b := range 256 {
				compare(t, s[:i]+string([]byte{byte(b)})+s[i:])
				if i < len(s) {
					compare(t, s[:i]+string([]byte{byte(b)})+s[i+1:])
				}
			}
			compare(t, s[:i])
			compare(t, s[i:])
			for j := i + 1; j <= len(s); j++ {
				compare(t, s[:i]+s[j:])
				compare(t, s[:j]+s[i:])
			}
			if i+2 <= len(s) {
				compare(t, s[:i]+s[i+1:i+2]+s[i:i+1]+s[i+2:])
			}
		}
	}
}

// P1, P2: calls at the same time do not influence each other.
func TestConcurrentCalls(t *testing.T) {
	type answer struct {
		s    string
		n    int64
		e, f api.Errno
	}
	ask := func(n int64) answer {
		var a answer
		a.s, a.e = rfc3339.Format(n)
		a.n, a.f = rfc3339.Parse(a.s)
		return a
	}
	want := map[int64]answer{}
	for n := int64(api.MinTime - 10*day); n <= api.MaxTime+10*day; n += 12345 * 6789 {
		want[n] = ask(n)
	}
	var wg sync.WaitGroup
	for range 4 {
		wg.Go(func() {
			for n, a := range want {
				if got := ask(n); got != a {
					t.Errorf("%d: %v, then %v", n, a, got)
				}
			}
		})
	}
	wg.Wait()
}

// FuzzParse checks the promises on arbitrary strings and numbers.
func FuzzParse(f *testing.F) {
	for i, s := range samples {
		f.Add(s, int64(i))
	}
	f.Add("", int64(api.MinTime-1))
	f.Add("2022-1-8T00:00:00Z", int64(api.MaxTime+1))
	f.Add("2022-01-08T00:00:00.Z", int64(math.MinInt64))
	f.Fuzz(func(t *testing.T, s string, n int64) {
		compare(t, s)
		got, e := rfc3339.Format(n)
		if n < api.MinTime || n > api.MaxTime {
			if got != "" || e != api.ErrRange {
				t.Errorf("Format(%d) = %q, %v", n, got, e)
			}
		} else if want := time.Unix(n, 0).UTC().Format("2006-01-02T15:04:05Z"); got != want || e != api.OK {
			t.Errorf("Format(%d) = %q, %v; want %q", n, got, e, want)
		} else {
			wantTime(t, got, n)
		}
	})
}
