// Package civil is layer 1: days and dates of the Gregorian calendar.
package civil

import "pagewatch/api"

const (
	daysInWeek   = 7
	monthsInYear = 12
	thursday     = 3
	february     = 2
	lastWeek     = 5 // the week of Nth that denotes the last one
	maxMonths    = (api.MaxYear - api.MinYear + 1) * monthsInYear
)

var monthLengths = [monthsInYear]int{31, 28, 31, 30, 31, 30, 31, 31, 30, 31, 30, 31}

// Leap reports whether year has a 29th of February.
func Leap(year int) bool {
	return year%4 == 0 && (year%100 != 0 || year%400 == 0)
}

// Days returns the number of days of a month, and 0 if there is no such month.
func Days(year, month int) int {
	switch {
	case month < 1 || month > monthsInYear:
		return 0
	case month == february && Leap(year):
		return monthLengths[february-1] + 1
	default:
		return monthLengths[month-1]
	}
}

// Valid reports whether d is a date from MinYear to MaxYear.
func Valid(d api.Date) bool {
	return d.Year >= api.MinYear && d.Year <= api.MaxYear && d.Day >= 1 && d.Day <= Days(d.Year, d.Month)
}

// Day returns the number of days from 1970-01-01 to d.
func Day(d api.Date) (int, api.Errno) {
	if !Valid(d) {
		return 0, api.ErrRange
	}
	day := newYear(d.Year) + d.Day - 1
	for month := 1; month < d.Month; month++ {
		day += Days(d.Year, month)
	}
	return day, api.OK
}

// DateOf returns the date that is day days after 1970-01-01.
func DateOf(day int) (api.Date, api.Errno) {
	if day < 0 || day >= newYear(api.MaxYear+1) {
		return api.Date{}, api.ErrRange
	}
	year := yearOf(day)
	rest := day - newYear(year)
	month := 1
	for month < monthsInYear && rest >= Days(year, month) {
		rest -= Days(year, month)
		month++
	}
	return api.Date{Year: year, Month: month, Day: rest + 1}, api.OK
}

// Weekday returns 0 for a Monday to 6 for a Sunday, for any number of a day.
func Weekday(day int) int {
	// The rest of a negative number is negative; it is reduced before anything is added, so that no sum overflows.
	return (day%daysInWeek + daysInWeek + thursday) % daysInWeek
}

// Nth returns the day of the week-th weekday of a month, and of the last one for week 5.
func Nth(year, month, week, weekday int) (int, api.Errno) {
	first, e := Day(api.Date{Year: year, Month: month, Day: 1})
	if e != api.OK || week < 1 || week > lastWeek || weekday < 0 || weekday >= daysInWeek {
		return 0, api.ErrRange
	}
	day := first + (weekday-Weekday(first)+daysInWeek)%daysInWeek + (week-1)*daysInWeek
	// Every month has four of each weekday, so only the fifth one may be missing.
	if day >= first+Days(year, month) {
		day -= daysInWeek
	}
	return day, api.OK
}

// AddMonths returns the date n months after d, on the last day of that month if it has no such day.
func AddMonths(d api.Date, n int) (api.Date, api.Errno) {
	// A greater n leads out of the valid years from any date; it is refused first, so that the sum does not overflow.
	if !Valid(d) || n < -maxMonths || n > maxMonths {
		return api.Date{}, api.ErrRange
	}
	months := d.Year*monthsInYear + d.Month - 1 + n
	year, month := months/monthsInYear, months%monthsInYear+1
	sum := api.Date{Year: year, Month: month, Day: min(d.Day, Days(year, month))}
	if !Valid(sum) {
		return api.Date{}, api.ErrRange
	}
	return sum, api.OK
}

// Week returns the year and the number of the week of d, which are those of its Thursday.
func Week(d api.Date) (year, week int, e api.Errno) {
	day, e := Day(d)
	if e != api.OK {
		return 0, 0, e
	}
	// The first valid day and the last one are Thursdays, so the Thursday of each valid date is valid, too.
	middle := day - Weekday(day) + thursday
	year = yearOf(middle)
	return year, (middle-newYear(year))/daysInWeek + 1, api.OK
}

// newYear returns the day of the first of January of a year from MinYear on.
func newYear(year int) int {
	return (year-api.MinYear)*365 + leapsBefore(year) - leapsBefore(api.MinYear)
}

// leapsBefore returns the number of leap years from 1 on that are less than a positive year.
func leapsBefore(year int) int {
	before := year - 1
	return before/4 - before/100 + before/400
}

// yearOf returns the year in which a valid day lies.
func yearOf(day int) int {
	// The valid years are fewer than 366, so counting a day too many for each of them is at most one year too early.
	year := api.MinYear + day/366
	if day >= newYear(year+1) {
		year++
	}
	return year
}
