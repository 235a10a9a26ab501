// Package calendar converts dates and calculates with intervals of days. See shared/doc/01-calendar.md.
package calendar

import (
	"cmp"
	"slices"

	"assize/api"
)

const (
	firstYear    = 2000
	february     = 2
	daysOfWeek   = 7
	firstWeekday = 5 // day 0 is a Saturday
)

// lengths has the days of each month, in a year that is not a leap year.
var lengths = [12]int{31, 28, 31, 30, 31, 30, 31, 31, 30, 31, 30, 31}

// Day returns the number of the day of a date.
func Day(d api.Date) (n int, e api.Errno) {
	if !isDate(d) {
		return 0, api.ErrDate
	}
	n = firstDay(d.Year) + d.Day - 1
	for m := range d.Month - 1 {
		n += monthLength(d.Year, m+1)
	}
	if !isDay(n) {
		return 0, api.ErrDate
	}
	return n, api.OK
}

// Date returns the date of a day.
func Date(n int) (d api.Date, e api.Errno) {
	if !isDay(n) {
		return api.Date{}, api.ErrDate
	}
	year := yearOf(n)
	rest := n - firstDay(year)
	month := 1
	for rest >= monthLength(year, month) {
		rest -= monthLength(year, month)
		month++
	}
	return api.Date{Year: year, Month: month, Day: rest + 1}, api.OK
}

// Weekday returns the day of the week (0 for Monday).
func Weekday(n int) (w int, e api.Errno) {
	if !isDay(n) {
		return 0, api.ErrDate
	}
	return (n + firstWeekday) % daysOfWeek, api.OK
}

// Next returns the first day from n on that is a given day of the week.
func Next(n, weekday int) (m int, e api.Errno) {
	today, e := Weekday(n)
	if e != api.OK {
		return 0, e
	}
	if weekday < 0 || weekday >= daysOfWeek {
		return 0, api.ErrArg
	}
	m = n + (weekday-today+daysOfWeek)%daysOfWeek
	if !isDay(m) {
		return 0, api.ErrDate
	}
	return m, api.OK
}

// Check validates an interval.
func Check(i api.Interval) (e api.Errno) {
	if !isDay(i.From) || !isDay(i.To) || i.From > i.To {
		return api.ErrDate
	}
	return api.OK
}

// Meet returns the days that are in both intervals.
func Meet(a, b api.Interval) (x api.Interval, ok bool) {
	if Check(a) != api.OK || Check(b) != api.OK {
		return api.Interval{}, false
	}
	x = api.Interval{From: max(a.From, b.From), To: min(a.To, b.To)}
	if x.From > x.To {
		return api.Interval{}, false
	}
	return x, true
}

// Union returns the fewest intervals with the same days, in order.
func Union(l []api.Interval) (x []api.Interval, e api.Errno) {
	for _, i := range l {
		if e = Check(i); e != api.OK {
			return nil, e
		}
	}
	sorted := slices.Clone(l)
	slices.SortFunc(sorted, func(a, b api.Interval) int { return cmp.Compare(a.From, b.From) })
	for _, i := range sorted {
		x = join(x, i)
	}
	return x, api.OK
}

// In reports whether a day is in one of some intervals.
func In(n int, l []api.Interval) (ok bool) {
	return slices.ContainsFunc(l, func(i api.Interval) bool { return i.From <= n && n <= i.To })
}

func isDay(n int) bool { return n >= 0 && n <= api.MaxDay }

// isDate reports whether the calendar has this date, in a year that is small enough to calculate with.
func isDate(d api.Date) bool {
	// Every year has a day, so that later years have no day up to MaxDay.
	if d.Year < firstYear || d.Year > firstYear+api.MaxDay {
		return false
	}
	if d.Month < 1 || d.Month > len(lengths) {
		return false
	}
	return d.Day >= 1 && d.Day <= monthLength(d.Year, d.Month)
}

func isLeap(year int) bool {
	return year%4 == 0 && (year%100 != 0 || year%400 == 0)
}

func monthLength(year, month int) int {
	if month == february && isLeap(year) {
		return lengths[month-1] + 1
	}
	return lengths[month-1]
}

// firstDay returns the number of 1 January of a year from firstYear on.
func firstDay(year int) int {
	k := year - firstYear
	// The first year is divisible by 400: the quotients, rounded up, count the leap years before this one.
	return 365*k + (k+3)/4 - (k+99)/100 + (k+399)/400
}

// yearOf returns the year of a day.
func yearOf(n int) int {
	// No year has more than 366 days, so that the search begins a few years too early at most.
	year := firstYear + n/366
	for firstDay(year+1) <= n {
		year++
	}
	return year
}

// join adds an interval to a separated list, none of whose intervals begins later.
func join(l []api.Interval, i api.Interval) []api.Interval {
	last := len(l) - 1
	if last < 0 || i.From > l[last].To+1 {
		return append(l, i)
	}
	l[last].To = max(l[last].To, i.To)
	return l
}
