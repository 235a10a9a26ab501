package calendar_test

import (
	"math"
	"testing"
	"time"

	"assize/api"
	"assize/calendar"
)

func date(year, month, day int) api.Date {
	return api.Date{Year: year, Month: month, Day: day}
}

// P1.1: dates that are known, in both directions.
func TestDatesAndTheirNumbers(t *testing.T) {
	for _, x := range []struct {
		d api.Date
		n int
	}{
		{date(2000, 1, 1), 0},
		{date(2000, 1, 31), 30},
		{date(2000, 2, 1), 31},
		{date(2000, 2, 29), 59},
		{date(2000, 3, 1), 60},
		{date(2000, 12, 31), 365},
		{date(2001, 1, 1), 366},
		{date(2001, 2, 28), 424},
		{date(2001, 3, 1), 425},
		{date(2004, 2, 29), 1520},
		{date(2100, 2, 28), 36583},
		{date(2100, 3, 1), 36584},
		{date(2400, 1, 1), 146097},
		{date(2400, 2, 29), 146156},
		{date(4800, 1, 1), 7 * 146097},
	} {
		if n, e := calendar.Day(x.d); n != x.n || e != api.OK {
			t.Errorf("Day(%v) = %d, %d, want %d", x.d, n, e, x.n)
		}
		if d, e := calendar.Date(x.n); d != x.d || e != api.OK {
			t.Errorf("Date(%d) = %v, %d, want %v", x.n, d, e, x.d)
		}
	}
}

// P1.1: what is no date, in every part, however far out of range.
func TestDayOfNoDate(t *testing.T) {
	for _, d := range []api.Date{
		{},
		date(1999, 1, 1), date(1999, 12, 31), date(0, 1, 1), date(-2000, 1, 1),
		date(math.MinInt, 1, 1), date(math.MaxInt, 1, 1), date(math.MaxInt, 12, 31),
		// The numbers of these days are 313 and 54 modulo 2^64, but R4 speaks of mathematical values.
		date(50505469855535110, 1, 1), date(-50505469855531109, 1, 1),
		date(2000, 0, 1), date(2000, 13, 1), date(2000, -1, 1),
		date(2000, math.MinInt, 1), date(2000, math.MaxInt, 1),
		date(2000, 1, 0), date(2000, 1, 32), date(2000, 1, -1),
		date(2000, 1, math.MinInt), date(2000, 1, math.MaxInt),
		date(2000, 2, 30), date(2001, 2, 29), date(2004, 2, 30),
		date(2100, 2, 29), date(2200, 2, 29), date(2400, 2, 30),
		date(2000, 4, 31), date(2000, 6, 31), date(2000, 9, 31), date(2000, 11, 31),
		date(4871, 1, 1), date(9999, 1, 1), date(api.MaxDay+2000, 1, 1), date(api.MaxDay+2001, 1, 1),
	} {
		if n, e := calendar.Day(d); n != 0 || e != api.ErrDate {
			t.Errorf("Day(%v) = %d, %d, want ErrDate", d, n, e)
		}
	}
}

// P1.1: Day accepts exactly the dates of the calendar, also around each month's end.
func TestDayAcceptsTheCalendar(t *testing.T) {
	for _, year := range []int{2000, 2001, 2002, 2003, 2004, 2096, 2100, 2104, 2200, 2300, 2400, 4800} {
		for month := -1; month <= 14; month++ {
			for day := -1; day <= 33; day++ {
				u := time.Date(year, time.Month(month), day, 0, 0, 0, 0, time.UTC)
				is := u.Year() == year && int(u.Month()) == month && u.Day() == day
				if _, e := calendar.Day(date(year, month, day)); (e == api.OK) != is {
					t.Errorf("Day of %d-%d-%d: error %d, want a day: %t", year, month, day, e, is)
				}
			}
		}
	}
}

// P1.1: 2^20 is the last day, and there is none before day 0.
func TestFirstAndLastDay(t *testing.T) {
	last, e := calendar.Date(api.MaxDay)
	if want := date(4870, 11, 26); last != want || e != api.OK {
		t.Fatalf("Date(MaxDay) = %v, %d, want %v", last, e, want)
	}
	if n, e := calendar.Day(last); n != api.MaxDay || e != api.OK {
		t.Errorf("Day of the last day: %d, %d", n, e)
	}
	for _, d := range []api.Date{date(4870, 11, 27), date(4870, 12, 1), date(4870, 12, 31)} {
		if n, e := calendar.Day(d); n != 0 || e != api.ErrDate {
			t.Errorf("Day(%v) = %d, %d, want ErrDate", d, n, e)
		}
	}
	for _, n := range []int{-1, api.MaxDay + 1, math.MinInt, math.MaxInt} {
		if d, e := calendar.Date(n); d != (api.Date{}) || e != api.ErrDate {
			t.Errorf("Date(%d) = %v, %d, want ErrDate", n, d, e)
		}
		if w, e := calendar.Weekday(n); w != 0 || e != api.ErrDate {
			t.Errorf("Weekday(%d) = %d, %d, want ErrDate", n, w, e)
		}
	}
}

// P1.1, P1.3: every day has the date and the weekday of the Gregorian calendar, so that Day and Date
// are inverse to each other, and later dates have greater numbers.
func TestEveryDay(t *testing.T) {
	u := time.Date(2000, 1, 1, 0, 0, 0, 0, time.UTC)
	for n := 0; n <= api.MaxDay; n++ {
		want := date(u.Year(), int(u.Month()), u.Day())
		d, e := calendar.Date(n)
		if d != want || e != api.OK {
			t.Fatalf("Date(%d) = %v, %d, want %v", n, d, e, want)
		}
		if m, e := calendar.Day(d); m != n || e != api.OK {
			t.Fatalf("Day(%v) = %d, %d, want %d", d, m, e, n)
		}
		monday := (int(u.Weekday()) + 6) % 7 // package time counts from Sunday
		if w, e := calendar.Weekday(n); w != monday || e != api.OK {
			t.Fatalf("Weekday(%d) = %d, %d, want %d", n, w, e, monday)
		}
		u = u.AddDate(0, 0, 1)
	}
}

// P1.3: the days of the week follow each other.
func TestWeekdaysFollowEachOther(t *testing.T) {
	before, e := calendar.Weekday(0)
	if before != 5 || e != api.OK {
		t.Fatalf("Weekday(0) = %d, %d, want 5", before, e)
	}
	for n := 1; n <= api.MaxDay; n++ {
		w, e := calendar.Weekday(n)
		if w != (before+1)%7 || e != api.OK {
			t.Fatalf("Weekday(%d) = %d, %d, after %d", n, w, e, before)
		}
		before = w
	}
}

// P1.3: 400 years have 146097 days, from every year on from which they end by MaxDay.
func TestFourHundredYears(t *testing.T) {
	for year := 2000; year+400 <= 4870; year++ {
		a, e := calendar.Day(date(year, 1, 1))
		b, f := calendar.Day(date(year+400, 1, 1))
		if e != api.OK || f != api.OK || b-a != 146097 {
			t.Errorf("from %d on, 400 years have %d days (%d, %d)", year, b-a, e, f)
		}
	}
}

// firstFrom looks at the days one by one, as the definition of Next does.
func firstFrom(n, weekday int) (int, api.Errno) {
	for m := n; m <= api.MaxDay; m++ {
		if w, _ := calendar.Weekday(m); w == weekday {
			return m, api.OK
		}
	}
	return 0, api.ErrDate
}

// P1.1: Next is the least day from n on, and there may be none any more.
func TestNext(t *testing.T) {
	for _, from := range []int{0, 9816, api.MaxDay - 19} {
		for n := from; n < from+20; n++ {
			for weekday := range 7 {
				want, f := firstFrom(n, weekday)
				if m, e := calendar.Next(n, weekday); m != want || e != f {
					t.Errorf("Next(%d, %d) = %d, %d, want %d, %d", n, weekday, m, e, want, f)
				}
			}
		}
	}
	w, _ := calendar.Weekday(api.MaxDay)
	if m, e := calendar.Next(api.MaxDay, w); m != api.MaxDay || e != api.OK {
		t.Errorf("the last day is not its own next: %d, %d", m, e)
	}
	if m, e := calendar.Next(api.MaxDay, (w+1)%7); m != 0 || e != api.ErrDate {
		t.Errorf("a day after the last one: %d, %d", m, e)
	}
}

// P1.1, R1: what Next refuses, the day before the weekday.
func TestNextOfWrongArguments(t *testing.T) {
	for _, x := range []struct {
		n, weekday int
		want       api.Errno
	}{
		{0, 7, api.ErrArg}, {0, -1, api.ErrArg},
		{0, math.MaxInt, api.ErrArg}, {0, math.MinInt, api.ErrArg},
		{api.MaxDay, 7, api.ErrArg},
		{-1, 0, api.ErrDate}, {api.MaxDay + 1, 0, api.ErrDate},
		{math.MinInt, 3, api.ErrDate}, {math.MaxInt, 3, api.ErrDate},
		{-1, 7, api.ErrDate}, {api.MaxDay + 1, -1, api.ErrDate},
	} {
		if m, e := calendar.Next(x.n, x.weekday); m != 0 || e != x.want {
			t.Errorf("Next(%d, %d) = %d, %d, want error %d", x.n, x.weekday, m, e, x.want)
		}
	}
}
