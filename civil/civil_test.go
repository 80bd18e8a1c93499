package civil_test

import (
	"math"
	"sync"
	"testing"
	"time"

	"feedvault/api"
	"feedvault/civil"
)

const (
	firstDay = -719162
	lastDay  = 2932896
)

// extremes are the numbers at the bounds of the integer types and around them.
var extremes = []int{
	math.MinInt, math.MinInt + 1, math.MinInt32 - 1, math.MinInt32, math.MinInt32 + 1, -1 << 16, -10000, -9999, -400, -1,
	10000, 1 << 16, math.MaxInt32 - 1, math.MaxInt32, math.MaxInt32 + 1, math.MaxUint32, math.MaxUint32 + 1, math.MaxInt - 1, math.MaxInt,
}

// leap is the chapter's definition for any year from 1 to 9999.
func leap(y int) bool {
	switch {
	case y%400 == 0:
		return true
	case y%100 == 0:
		return false
	}
	return y%4 == 0
}

// daysIn is the chapter's list of the days of the months.
func daysIn(y, m int) int {
	switch m {
	case 4, 6, 9, 11:
		return 30
	case 2:
		if leap(y) {
			return 29
		}
		return 28
	}
	return 31
}

// eachDate calls f with every date and its day number, by counting from the first date on.
func eachDate(t *testing.T, f func(y, m, d int, days int64)) {
	days := int64(firstDay)
	for y := 1; y <= 9999 && !t.Failed(); y++ {
		for m := 1; m <= 12; m++ {
			for d := 1; d <= daysIn(y, m); d++ {
				f(y, m, d, days)
				days++
			}
		}
	}
	if days != lastDay+1 && !t.Failed() {
		t.Fatalf("the last day number is %d", days-1)
	}
}

func wantNoDays(t *testing.T, y, m, d int) {
	t.Helper()
	if n, e := civil.Days(y, m, d); n != 0 || e != api.ErrRange {
		t.Errorf("Days(%d, %d, %d) = %d, %v; want 0, %v", y, m, d, n, e, api.ErrRange)
	}
}

func wantNoDate(t *testing.T, days int64) {
	t.Helper()
	if y, m, d, e := civil.Date(days); y != 0 || m != 0 || d != 0 || e != api.ErrRange {
		t.Errorf("Date(%d) = %d, %d, %d, %v; want zeros, %v", days, y, m, d, e, api.ErrRange)
	}
	if w, e := civil.Weekday(days); w != 0 || e != api.ErrRange {
		t.Errorf("Weekday(%d) = %d, %v; want 0, %v", days, w, e, api.ErrRange)
	}
}

// P2.1: the years at which the rule changes.
func TestLeap(t *testing.T) {
	for _, y := range []int{4, 8, 96, 104, 400, 404, 800, 1200, 1600, 1904, 1996, 2000, 2004, 2024, 2400, 9600, 9996} {
		if !civil.Leap(y) {
			t.Errorf("%d is a leap year", y)
		}
	}
	for _, y := range []int{1, 2, 3, 5, 99, 100, 101, 200, 300, 399, 401, 500, 1000, 1700, 1800, 1900, 1970, 1999, 2001, 2002, 2003, 2100, 9900, 9998, 9999} {
		if civil.Leap(y) {
			t.Errorf("%d is no leap year", y)
		}
	}
	for _, y := range []int{0, -1, -3, -4, -100, -400, -2000, 10000, 10004, 10400, 12000, math.MinInt, math.MinInt32, 1 << 31, 1 << 32, 1<<32 + 4, math.MaxInt - 3} {
		if civil.Leap(y) {
			t.Errorf("%d is not from 1 to 9999", y)
		}
	}
}

// P2.1: every year, and the months of the year and those next to them.
func TestDaysInEveryMonth(t *testing.T) {
	for y := -500; y <= 10500; y++ {
		inside := y >= 1 && y <= 9999
		if got := civil.Leap(y); got != (inside && leap(y)) {
			t.Errorf("Leap(%d) = %v", y, got)
		}
		for m := -2; m <= 15; m++ {
			want := 0
			if inside && m >= 1 && m <= 12 {
				want = daysIn(y, m)
			}
			if got := civil.DaysIn(y, m); got != want {
				t.Errorf("DaysIn(%d, %d) = %d; want %d", y, m, got, want)
			}
		}
	}
}

// P2.1: a year or a month far outside has no days.
func TestDaysInExtremes(t *testing.T) {
	for _, x := range extremes {
		for m := range 14 {
			if got := civil.DaysIn(x, m); got != 0 {
				t.Errorf("DaysIn(%d, %d) = %d", x, m, got)
			}
		}
		for _, y := range []int{0, 1, 1900, 2000, 9999, 10000, x} {
			if got := civil.DaysIn(y, x); got != 0 {
				t.Errorf("DaysIn(%d, %d) = %d", y, x, got)
			}
		}
	}
}

// P2.2, P2.3: known dates, at the ends of the cycles of 4, 100 and 400 years above all.
func TestKnownDates(t *testing.T) {
	for _, c := range []struct {
		y, m, d int
		days    int64
		weekday int
	}{
		{1, 1, 1, -719162, 1},
		{1, 1, 2, -719161, 2},
		{1, 1, 31, -719132, 3},
		{1, 2, 1, -719131, 4},
		{1, 12, 31, -718798, 1},
		{2, 1, 1, -718797, 2},
		{4, 2, 28, -718009, 6},
		{4, 2, 29, -718008, 0},
		{4, 3, 1, -718007, 1},
		{4, 12, 31, -717702, 5},
		{5, 1, 1, -717701, 6},
		{100, 2, 28, -682945, 0},
		{100, 3, 1, -682944, 1},
		{100, 12, 31, -682639, 5},
		{101, 1, 1, -682638, 6},
		{400, 2, 29, -573372, 2},
		{400, 12, 31, -573066, 0},
		{401, 1, 1, -573065, 1},
		{1582, 10, 15, -141427, 5},
		{1900, 2, 28, -25509, 3},
		{1900, 3, 1, -25508, 4},
		{1969, 12, 31, -1, 3},
		{1970, 1, 1, 0, 4},
		{1970, 1, 2, 1, 5},
		{2000, 2, 29, 11016, 2},
		{2000, 3, 1, 11017, 3},
		{2000, 12, 31, 11322, 0},
		{2001, 1, 1, 11323, 1},
		{2022, 1, 8, 19000, 6},
		{2024, 2, 29, 19782, 4},
		{2024, 12, 31, 20088, 2},
		{9999, 12, 30, 2932895, 4},
		{9999, 12, 31, 2932896, 5},
	} {
		if n, e := civil.Days(c.y, c.m, c.d); n != c.days || e != api.OK {
			t.Errorf("Days(%d, %d, %d) = %d, %v; want %d", c.y, c.m, c.d, n, e, c.days)
		}
		if y, m, d, e := civil.Date(c.days); y != c.y || m != c.m || d != c.d || e != api.OK {
			t.Errorf("Date(%d) = %d, %d, %d, %v; want %d, %d, %d", c.days, y, m, d, e, c.y, c.m, c.d)
		}
		if w, e := civil.Weekday(c.days); w != c.weekday || e != api.OK {
			t.Errorf("Weekday(%d) = %d, %v; want %d", c.days, w, e, c.weekday)
		}
	}
}

// P2.2, P2.5: every date has the next day number, and Date inverts Days.
func TestEveryDate(t *testing.T) {
	eachDate(t, func(y, m, d int, days int64) {
		if n, e := civil.Days(y, m, d); n != days || e != api.OK {
			t.Errorf("Days(%d, %d, %d) = %d, %v; want %d", y, m, d, n, e, days)
		}
		if gotY, gotM, gotD, e := civil.Date(days); gotY != y || gotM != m || gotD != d || e != api.OK {
			t.Errorf("Date(%d) = %d, %d, %d, %v; want %d, %d, %d", days, gotY, gotM, gotD, e, y, m, d)
		}
	})
}

// P2.2: the days next to each month, and the months next to each year, are no dates.
func TestNoSuchDate(t *testing.T) {
	for y := 1; y <= 9999 && !t.Failed(); y++ {
		for m := 1; m <= 12; m++ {
			for _, d := range []int{-31, -1, 0, daysIn(y, m) + 1, 32, 100} {
				wantNoDays(t, y, m, d)
			}
		}
		for _, d := range []int{0, 1, 28, 31, 32} {
			for _, m := range []int{-12, -1, 0, 13, 24} {
				wantNoDays(t, y, m, d)
			}
		}
	}
	for _, y := range []int{-2000, -4, -1, 0, 10000, 10001, 12000} {
		for m := range 14 {
			for d := range 33 {
				wantNoDays(t, y, m, d)
			}
		}
	}
}

// P2.2: numbers far outside, at each place of a date, also those that an overflow or a narrower type would bring back into range.
func TestDaysExtremes(t *testing.T) {
	for _, x := range extremes {
		for _, valid := range []int{0, 1, 2, 29} {
			wantNoDays(t, x, valid, valid)
			wantNoDays(t, valid, x, valid)
			wantNoDays(t, valid, valid, x)
			wantNoDays(t, x, x, valid)
			wantNoDays(t, valid, x, x)
			wantNoDays(t, x, valid, x)
		}
		wantNoDays(t, x, x, x)
	}
	for _, wrapped := range []int{1 << 8, 1 << 16, 1 << 32} {
		for _, x := range []int{wrapped + 1, -wrapped + 1} {
			wantNoDays(t, 2000, x, 1)
			wantNoDays(t, 2000, 1, x)
		}
	}
	wantNoDays(t, 1<<16+2000, 1, 1)
	wantNoDays(t, 1<<32+2000, 1, 1)
}

// P2.2, P2.3: day numbers outside of the years 1 to 9999 have neither a date nor a day of the week.
func TestNoSuchDay(t *testing.T) {
	for i := range int64(1000) {
		wantNoDate(t, firstDay-1-i)
		wantNoDate(t, lastDay+1+i)
	}
	for _, n := range []int64{
		math.MinInt64, math.MinInt64 + 1, math.MinInt64 - firstDay - 1, math.MinInt64 - firstDay, math.MinInt64 + lastDay,
		math.MinInt32, -1 << 32, -1e9, -1e7, 1e7, 1e9, math.MaxInt32, 1 << 32, 1<<32 + 19000, 1<<48 + 1,
		math.MaxInt64 + firstDay - 1, math.MaxInt64 + firstDay, math.MaxInt64 + firstDay + 1, math.MaxInt64 - 4, math.MaxInt64 - 1, math.MaxInt64,
	} {
		wantNoDate(t, n)
	}
}

// P2.3: the days of the week follow each other, with a Thursday at 1970-01-01.
func TestEveryWeekday(t *testing.T) {
	want := 4
	for days := int64(0); days <= lastDay && !t.Failed(); days++ {
		if w, e := civil.Weekday(days); w != want || e != api.OK {
			t.Errorf("Weekday(%d) = %d, %v; want %d", days, w, e, want)
		}
		want = (want + 1) % 7
	}
	want = 4
	for days := int64(0); days >= firstDay && !t.Failed(); days-- {
		if w, e := civil.Weekday(days); w != want || e != api.OK {
			t.Errorf("Weekday(%d) = %d, %v; want %d", days, w, e, want)
		}
		want = (want + 6) % 7
	}
}

func wantNoSeconds(t *testing.T, a [6]int) {
	t.Helper()
	if s, e := civil.Seconds(a[0], a[1], a[2], a[3], a[4], a[5]); s != 0 || e != api.ErrRange {
		t.Errorf("Seconds(%v) = %d, %v; want 0, %v", a, s, e, api.ErrRange)
	}
}

// P2.4: known times, and the first and last ones.
func TestSeconds(t *testing.T) {
	for _, c := range []struct {
		a    [6]int
		want int64
	}{
		{[6]int{1970, 1, 1, 0, 0, 0}, 0},
		{[6]int{1970, 1, 1, 0, 0, 59}, 59},
		{[6]int{1970, 1, 1, 0, 59, 0}, 3540},
		{[6]int{1970, 1, 1, 23, 0, 0}, 82800},
		{[6]int{1970, 1, 1, 23, 59, 59}, 86399},
		{[6]int{1970, 1, 2, 0, 0, 0}, 86400},
		{[6]int{1969, 12, 31, 23, 59, 59}, -1},
		{[6]int{1969, 12, 31, 0, 0, 0}, -86400},
		{[6]int{2022, 1, 8, 0, 0, 0}, 1641600000},
		{[6]int{2000, 2, 29, 12, 34, 56}, 951827696},
		{[6]int{2038, 1, 19, 3, 14, 8}, 1 << 31},
		{[6]int{1, 1, 1, 0, 0, 0}, -62135596800},
		{[6]int{9999, 12, 31, 23, 59, 59}, 253402300799},
		{[6]int{1, 1, 1, 0, 0, 0}, api.MinTime},
		{[6]int{9999, 12, 31, 23, 59, 59}, api.MaxTime},
	} {
		if s, e := civil.Seconds(c.a[0], c.a[1], c.a[2], c.a[3], c.a[4], c.a[5]); s != c.want || e != api.OK {
			t.Errorf("Seconds(%v) = %d, %v; want %d", c.a, s, e, c.want)
		}
	}
}

// P2.4, P2.5: each second of a day follows the one before, also on the first and the last day, and no result leaves the bounds.
func TestEverySecond(t *testing.T) {
	for _, c := range []struct {
		y, m, d int
		first   int64
	}{{1, 1, 1, api.MinTime}, {1969, 12, 31, -86400}, {1970, 1, 1, 0}, {2000, 2, 29, 951782400}, {9999, 12, 31, api.MaxTime - 86399}} {
		want := c.first
		for hour := range 24 {
			for min := range 60 {
				for sec := range 60 {
					s, e := civil.Seconds(c.y, c.m, c.d, hour, min, sec)
					if s != want || e != api.OK || s < api.MinTime || s > api.MaxTime {
						t.Fatalf("Seconds(%d, %d, %d, %d, %d, %d) = %d, %v; want %d", c.y, c.m, c.d, hour, min, sec, s, e, want)
					}
					want++
				}
			}
		}
	}
}

// P2.4, P2.5: every date has its seconds, within the bounds; package time counts them too.
func TestSecondsOfEveryDate(t *testing.T) {
	eachDate(t, func(y, m, d int, days int64) {
		hour, min, sec := int(uint64(days)%24), int(uint64(days)%60), int(uint64(days)%59)
		want := time.Date(y, time.Month(m), d, hour, min, sec, 0, time.UTC).Unix()
		s, e := civil.Seconds(y, m, d, hour, min, sec)
		if s != want || e != api.OK || s < api.MinTime || s > api.MaxTime {
			t.Errorf("Seconds(%d, %d, %d, %d, %d, %d) = %d, %v; want %d", y, m, d, hour, min, sec, s, e, want)
		}
	})
}

// P2.4: each part of the date and of the time, just outside and far outside, alone and together with others.
func TestNoSuchTime(t *testing.T) {
	valid := [6]int{2000, 2, 29, 23, 59, 59}
	outside := [6][]int{
		{0, -1, -2000, 10000, 1<<32 + 2000},
		{0, -1, 13, 1<<32 + 2},
		{0, -1, 30, 32, 1<<32 + 29},
		{-1, -24, 24, 25, 1<<32 + 1, 1 << 32},
		{-1, -60, 60, 61, 1<<32 + 1, 1 << 32},
		{-1, -60, 60, 61, 1<<32 + 1, 1 << 32},
	}
	for i, list := range outside {
		for _, x := range append(list, extremes...) {
			a := valid
			a[i] = x
			wantNoSeconds(t, a)
			for j := range i {
				b := a
				b[j] = outside[j][0]
				wantNoSeconds(t, b)
			}
		}
	}
	for _, a := range [][6]int{
		{2001, 2, 29, 0, 0, 0}, {1900, 2, 29, 0, 0, 0}, {2000, 2, 30, 0, 0, 0}, {2000, 4, 31, 0, 0, 0}, {2000, 12, 32, 0, 0, 0},
		{2000, 1, 1, 24, 0, 0}, {2000, 1, 1, 0, 60, 0}, {2000, 1, 1, 0, 0, 60}, {2016, 12, 31, 23, 59, 60}, {2000, 1, 1, 24, 60, 60},
		{2000, 1, 1, 1, -60, 0}, {2000, 1, 1, 0, 1, -60}, {2000, 1, 1, -1, 60, 0}, {0, 0, 0, 0, 0, 0},
		{9999, 12, 31, 24, 0, 0}, {1, 1, 1, 0, 0, -1}, {10000, 1, 1, 0, 0, 0}, {0, 12, 31, 23, 59, 59},
	} {
		wantNoSeconds(t, a)
	}
}

// P1, P2: calls at the same time do not influence each other.
func TestConcurrentCalls(t *testing.T) {
	type answer struct {
		y, m, d, w, n int
		days, s       int64
		e             [4]api.Errno
	}
	ask := func(days int64) answer {
		var a answer
		a.y, a.m, a.d, a.e[0] = civil.Date(days)
		a.w, a.e[1] = civil.Weekday(days)
		a.n = civil.DaysIn(a.y, a.m)
		a.days, a.e[2] = civil.Days(a.y, a.m, a.d)
		a.s, a.e[3] = civil.Seconds(a.y, a.m, a.d, int(days&31), 0, 0)
		return a
	}
	want := map[int64]answer{}
	for days := int64(firstDay - 1000); days <= lastDay+1000; days += 997 {
		want[days] = ask(days)
	}
	var wg sync.WaitGroup
	for range 4 {
		wg.Go(func() {
			for days, a := range want {
				if got := ask(days); got != a {
					t.Errorf("%d: %v, then %v", days, a, got)
				}
			}
		})
	}
	wg.Wait()
}

// FuzzDays checks the promises on arbitrary numbers.
func FuzzDays(f *testing.F) {
	f.Add(2000, 2, 29, 23, 59, 59)
	f.Add(1900, 2, 29, 24, 60, 60)
	f.Add(0, 13, 32, -1, -1, -1)
	f.Add(math.MinInt, math.MaxInt, 0, math.MinInt, math.MaxInt, 0)
	f.Fuzz(func(t *testing.T, y, m, d, hour, min, sec int) {
		inside := y >= 1 && y <= 9999 && m >= 1 && m <= 12 && d >= 1 && d <= daysIn(y, m)
		n, e := civil.Days(y, m, d)
		if inside != (e == api.OK) || !inside && n != 0 {
			t.Errorf("Days(%d, %d, %d) = %d, %v", y, m, d, n, e)
		}
		if y2, m2, d2, _ := civil.Date(n); inside && (y2 != y || m2 != m || d2 != d) {
			t.Errorf("Date(%d) = %d, %d, %d; want %d, %d, %d", n, y2, m2, d2, y, m, d)
		}
		s, e := civil.Seconds(y, m, d, hour, min, sec)
		if inside = inside && hour >= 0 && hour <= 23 && min >= 0 && min <= 59 && sec >= 0 && sec <= 59; !inside {
			if s != 0 || e != api.ErrRange {
				t.Errorf("Seconds(%d, %d, %d, %d, %d, %d) = %d, %v", y, m, d, hour, min, sec, s, e)
			}
		} else if s != n*86400+int64(hour*3600+min*60+sec) || e != api.OK {
			t.Errorf("Seconds(%d, %d, %d, %d, %d, %d) = %d, %v", y, m, d, hour, min, sec, s, e)
		}
		if _, _, _, e := civil.Date(int64(y)); (e == api.OK) != (y >= firstDay && y <= lastDay) {
			t.Errorf("Date(%d): %v", y, e)
		}
		if w, e := civil.Weekday(int64(y)); (e == api.OK) != (y >= firstDay && y <= lastDay) || w < 0 || w > 6 {
			t.Errorf("Weekday(%d) = %d, %v", y, w, e)
		}
	})
}
