package code

import "cannery/api"

const (
	firstYear = 2000
	lastYear  = 2199
	lastDay   = 73048 // the last year's
	saturday  = 5     // the weekday of the day 0
)

// Leap reports whether a year is a leap year.
func Leap(year int) bool {
	return year%4 == 0 && (year%100 != 0 || year%400 == 0)
}

// ValidDate reports whether a date is that of a day.
func ValidDate(d api.Date) bool {
	return within(d.Year, firstYear, lastYear) &&
		within(d.Month, 1, 12) &&
		within(d.Day, 1, daysBefore(d.Year, d.Month+1)-daysBefore(d.Year, d.Month))
}

// DayOf returns the day of a date.
func DayOf(d api.Date) (int, api.Errno) {
	if !ValidDate(d) {
		return 0, api.ErrRange
	}
	return startOf(d.Year) + daysBefore(d.Year, d.Month) + d.Day - 1, api.OK
}

// DateOf returns the date of a day.
func DateOf(day int) (api.Date, api.Errno) {
	if !isDay(day) {
		return api.Date{}, api.ErrRange
	}
	year, left := yearOf(day)
	month := 1
	for daysBefore(year, month+1) <= left {
		month++
	}
	return api.Date{Year: year, Month: month, Day: left - daysBefore(year, month) + 1}, api.OK
}

// Weekday returns the weekday of a day, from 0 for Monday to 6 for Sunday.
func Weekday(day int) (int, api.Errno) {
	if !isDay(day) {
		return 0, api.ErrRange
	}
	return (saturday + day) % 7, api.OK
}

// OfYear returns the number of a day in its year, from 0.
func OfYear(day int) (int, api.Errno) {
	if !isDay(day) {
		return 0, api.ErrRange
	}
	_, number := yearOf(day)
	return number, api.OK
}

func isDay(n int) bool { return within(n, 0, lastDay) }

// yearOf returns the year of a day, and the day's number in it, from 0.
func yearOf(day int) (year, number int) {
	year = firstYear + day/366 // never too late, as no year is longer
	for startOf(year+1) <= day {
		year++
	}
	return year, day - startOf(year)
}

// startOf returns the first day of a year.
func startOf(year int) int {
	n := year - firstYear
	// The first year is a leap year, of the fours, of the hundreds and of the four hundreds.
	leaps := (n+3)/4 - (n+99)/100 + (n+399)/400
	return 365*n + leaps
}

// daysBefore returns how many days of a year come before a month of it. Before the month 13 come all of them.
func daysBefore(year, month int) int {
	days := 0
	switch month {
	case 13:
		days += 31
		fallthrough
	case 12:
		days += 30
		fallthrough
	case 11:
		days += 31
		fallthrough
	case 10:
		days += 30
		fallthrough
	case 9:
		days += 31
		fallthrough
	case 8:
		days += 31
		fallthrough
	case 7:
		days += 30
		fallthrough
	case 6:
		days += 31
		fallthrough
	case 5:
		days += 30
		fallthrough
	case 4:
		days += 31
		fallthrough
	case 3:
		days += 28
		if Leap(year) {
			days++
		}
		fallthrough
	case 2:
		days += 31
	}
	return days
}
