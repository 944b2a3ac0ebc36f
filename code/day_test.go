package code_test

import (
	"math"
	"testing"
	"time"

	"cannery/api"
	"cannery/code"
)

const lastDay = 73048

// noDays are numbers that are no days.
var noDays = []int{math.MinInt, -73048, -366, -1, lastDay + 1, lastDay + 366, 100000000, math.MaxInt}

// 6.1
func TestLeap(t *testing.T) {
	for _, c := range []struct {
		year int
		leap bool
	}{
		{2000, true}, {2001, false}, {2002, false}, {2003, false}, {2004, true}, {2020, true}, {2026, false},
		{2096, true}, {2099, false}, {2100, false}, {2101, false}, {2104, true}, {2196, true}, {2199, false}, {2200, false},
		// years without days are leap years by the same rule
		{1900, false}, {1996, true}, {1600, true}, {2400, true}, {2300, false},
		{0, true}, {4, true}, {1, false}, {100, false}, {-1, false}, {-4, true}, {-100, false}, {-400, true}, {-2, false},
		{math.MaxInt, false}, {math.MinInt, true}, {math.MinInt + 1, false}, {math.MinInt + 4, true},
	} {
		if leap := code.Leap(c.year); leap != c.leap {
			t.Errorf("Leap(%d) = %t", c.year, leap)
		}
	}
	for year := -2000; year <= 4000; year++ {
		if want := time.Date(year, 12, 31, 0, 0, 0, 0, time.UTC).YearDay() == 366; code.Leap(year) != want {
			t.Errorf("Leap(%d) = %t", year, !want)
		}
	}
}

// 6.1: every day, as the calendar of the library has it.
func TestEveryDay(t *testing.T) {
	at := time.Date(2000, 1, 1, 0, 0, 0, 0, time.UTC)
	for day := range lastDay + 1 {
		want := api.Date{Year: at.Year(), Month: int(at.Month()), Day: at.Day()}
		if d, e := code.DateOf(day); d != want || e != api.OK {
			t.Errorf("DateOf(%d) = %v, %d", day, d, e)
		}
		if n, e := code.DayOf(want); n != day || e != api.OK {
			t.Errorf("DayOf(%v) = %d, %d", want, n, e)
		}
		if !code.ValidDate(want) {
			t.Errorf("%v is not valid", want)
		}
		if n, e := code.Weekday(day); n != (int(at.Weekday())+6)%7 || e != api.OK {
			t.Errorf("Weekday(%d) = %d, %d", day, n, e)
		}
		if n, e := code.OfYear(day); n != at.YearDay()-1 || e != api.OK {
			t.Errorf("OfYear(%d) = %d, %d", day, n, e)
		}
		at = at.AddDate(0, 0, 1)
	}
	if at.Year() != 2200 || at.YearDay() != 1 {
		t.Errorf("behind the last day is %v", at)
	}
}

// 6.1: the examples, and the ends of years and of the calendar.
func TestDays(t *testing.T) {
	for _, c := range []struct {
		day             int
		date            api.Date
		weekday, number int
	}{
		{0, api.Date{Year: 2000, Month: 1, Day: 1}, 5, 0},
		{1, api.Date{Year: 2000, Month: 1, Day: 2}, 6, 1},
		{2, api.Date{Year: 2000, Month: 1, Day: 3}, 0, 2},
		{58, api.Date{Year: 2000, Month: 2, Day: 28}, 0, 58},
		{59, api.Date{Year: 2000, Month: 2, Day: 29}, 1, 59},
		{60, api.Date{Year: 2000, Month: 3, Day: 1}, 2, 60},
		{365, api.Date{Year: 2000, Month: 12, Day: 31}, 6, 365},
		{366, api.Date{Year: 2001, Month: 1, Day: 1}, 0, 0},
		{366 + 365, api.Date{Year: 2002, Month: 1, Day: 1}, 1, 0},
		{36524, api.Date{Year: 2099, Month: 12, Day: 31}, 3, 364},
		{36525, api.Date{Year: 2100, Month: 1, Day: 1}, 4, 0},
		{36525 + 58, api.Date{Year: 2100, Month: 2, Day: 28}, 6, 58},
		{36525 + 59, api.Date{Year: 2100, Month: 3, Day: 1}, 0, 59},
		{36525 + 364, api.Date{Year: 2100, Month: 12, Day: 31}, 4, 364},
		{lastDay - 364, api.Date{Year: 2199, Month: 1, Day: 1}, 1, 0},
		{lastDay, api.Date{Year: 2199, Month: 12, Day: 31}, 1, 364},
	} {
		if d, e := code.DateOf(c.day); d != c.date || e != api.OK {
			t.Errorf("DateOf(%d) = %v, %d", c.day, d, e)
		}
		if day, e := code.DayOf(c.date); day != c.day || e != api.OK {
			t.Errorf("DayOf(%v) = %d, %d", c.date, day, e)
		}
		if n, e := code.Weekday(c.day); n != c.weekday || e != api.OK {
			t.Errorf("Weekday(%d) = %d, %d", c.day, n, e)
		}
		if n, e := code.OfYear(c.day); n != c.number || e != api.OK {
			t.Errorf("OfYear(%d) = %d, %d", c.day, n, e)
		}
	}
}

// 6.1: what is no day.
func TestNoDays(t *testing.T) {
	for _, day := range noDays {
		if d, e := code.DateOf(day); d != (api.Date{}) || e != api.ErrRange {
			t.Errorf("DateOf(%d) = %v, %d", day, d, e)
		}
		if n, e := code.Weekday(day); n != 0 || e != api.ErrRange {
			t.Errorf("Weekday(%d) = %d, %d", day, n, e)
		}
		if n, e := code.OfYear(day); n != 0 || e != api.ErrRange {
			t.Errorf("OfYear(%d) = %d, %d", day, n, e)
		}
	}
}

// 6.1: a date is valid if and only if it is that of a day.
func TestValidDate(t *testing.T) {
	dates := map[api.Date]bool{}
	for day := range lastDay + 1 {
		d, _ := code.DateOf(day)
		dates[d] = true
	}
	if len(dates) != lastDay+1 {
		t.Errorf("there are %d dates", len(dates))
	}
	years := []int{math.MinInt, -2000, 0, 26, 400, 1996, 1999, 2200, 2204, 2400, math.MaxInt}
	for year := 2000; year <= 2199; year++ {
		years = append(years, year)
	}
	months := []int{math.MinInt, -1, 0, 1, 2, 3, 4, 5, 6, 7, 8, 9, 10, 11, 12, 13, 14, math.MaxInt}
	days := []int{math.MinInt, -1, 0, 1, 2, 15, 27, 28, 29, 30, 31, 32, 60, math.MaxInt}
	for _, year := range years {
		for _, month := range months {
			for _, day := range days {
				d := api.Date{Year: year, Month: month, Day: day}
				if code.ValidDate(d) != dates[d] {
					t.Errorf("ValidDate(%v) = %t", d, !dates[d])
				}
				if n, e := code.DayOf(d); !dates[d] && (n != 0 || e != api.ErrRange) {
					t.Errorf("DayOf(%v) = %d, %d", d, n, e)
				}
			}
		}
	}
}

// P6.2
func TestMondays(t *testing.T) {
	mondays := 0
	for day := range lastDay - 6 {
		n, _ := code.Weekday(day)
		week, e := code.Weekday(day + 7)
		if n != week || e != api.OK {
			t.Errorf("the weekday of %d is %d, seven days later %d", day, n, week)
		}
		if n == 0 {
			mondays++
		}
		d, _ := code.DateOf(day)
		if back, e := code.DayOf(d); back != day || e != api.OK {
			t.Errorf("the day %d is %v, and this %d", day, d, back)
		}
	}
	if mondays != 10435 {
		t.Errorf("there are %d Mondays", mondays)
	}
}
