package code_test

import (
	"math"
	"slices"
	"testing"

	"cannery/api"
	"cannery/code"
)

// stamp is the example's, but for the day and the period.
func stamp(day, period int) api.Stamp {
	return api.Stamp{Plant: "A", Product: "17", Line: "2", Day: day, Period: period}
}

// anyStamp makes a stamp of any signs, day and period.
func anyStamp(seed int) api.Stamp {
	s := anyText(seed)
	return api.Stamp{Plant: s[:1], Product: s[1:3], Line: s[3:4], Day: numbers(3, seed, 0, lastDay)[2], Period: numbers(4, seed, 0, 30)[3]}
}

// goodStamps are at the bounds of what is valid.
func goodStamps() []api.Stamp {
	l := []api.Stamp{stamp(59, 3), stamp(0, 0), stamp(0, 30), stamp(lastDay, 0), stamp(lastDay, 30)}
	return append(l, api.Stamp{Plant: "0", Product: "00", Line: "0"}, api.Stamp{Plant: "W", Product: "WW", Line: "W", Day: lastDay, Period: 30}, api.Stamp{Plant: "H", Product: "NJ", Line: "P", Day: 5})
}

// badStamps are not valid, each by one field.
func badStamps() []api.Stamp {
	l := []api.Stamp{{}}
	for _, day := range noDays {
		l = append(l, stamp(day, 3))
	}
	for _, period := range []int{math.MinInt, -1, 31, 32, math.MaxInt} {
		l = append(l, stamp(59, period))
	}
	for _, word := range []string{"", "12", "I", "O", "a", "X", " ", "Ä", "\xff", "İ", "\x00", "123"} {
		x, y := stamp(59, 3), stamp(59, 3)
		x.Plant, y.Line = word, word
		l = append(l, x, y)
	}
	for _, word := range []string{"", "1", "123", "1I", "O1", "a1", "1a", " 1", "1\n", "Ä", "\xff1", "1\xff", "ÄÄ", "İ", "İİ"} {
		x := stamp(59, 3)
		x.Product = word
		l = append(l, x)
	}
	return l
}

// 6.2
func TestValidStamp(t *testing.T) {
	for _, x := range goodStamps() {
		if !code.ValidStamp(x) {
			t.Errorf("%v is not valid", x)
		}
	}
	for _, x := range badStamps() {
		if code.ValidStamp(x) {
			t.Errorf("%v is valid", x)
		}
		if s, e := code.Print(x); s != "" || e != api.ErrInvalid {
			t.Errorf("Print(%v) = %q, %d", x, s, e)
		}
	}
}

// 6.2: the example, and the days whose two signs or whose digit are at their bounds.
func TestPrint(t *testing.T) {
	for _, c := range []struct {
		x    api.Stamp
		want string
	}{
		{stamp(59, 3), "A1701U23"},
		{stamp(0, 0), "A1700020"},
		{stamp(30, 0), "A1700W20"},
		{stamp(31, 30), "A170102W"},
		{stamp(365, 3), "A170BQ23"},
		{stamp(366, 3), "A1710023"},
		{stamp(36524, 3), "A179BP23"},
		{stamp(36525, 3), "A1700023"},
		{stamp(36525+364, 3), "A170BP23"},
		{stamp(36525+365, 3), "A1710023"},
		{stamp(lastDay, 30), "A179BP2W"},
		{api.Stamp{Plant: "W", Product: "JP", Line: "0", Day: 366 + 365, Period: 9}, "WJP20009"},
	} {
		s, e := code.Print(c.x)
		if e != api.OK || len(s) != 9 || s[:8] != c.want || weight(s) != 0 {
			t.Errorf("Print(%v) = %q, %d", c.x, s, e)
		}
	}
	if s, e := code.Print(stamp(59, 3)); s != "A1701U23U" || e != api.OK {
		t.Errorf("Print of the example = %q, %d", s, e)
	}
	for seed := range 3000 {
		x := anyStamp(seed)
		d, _ := code.DateOf(x.Day)
		number, _ := code.OfYear(x.Day)
		want := x.Plant + x.Product + string(rune('0'+d.Year%10)) + string(signs[number/31]) + string(signs[number%31]) + x.Line + string(signs[x.Period])
		if s, e := code.Print(x); e != api.OK || s[:8] != want || len(s) != 9 || weight(s) != 0 {
			t.Errorf("Print(%v) = %q, %d", x, s, e)
		}
	}
}

// read looks at the days one by one, from near backwards, for one that makes the same signs.
func read(s string, near int) (api.Stamp, api.Errno) {
	for day := near; day >= 0; day-- {
		d, _ := code.DateOf(day)
		number, _ := code.OfYear(day)
		if s[3] == byte('0'+d.Year%10) && s[4] == signs[number/31] && s[5] == signs[number%31] {
			return api.Stamp{Plant: s[:1], Product: s[1:3], Line: s[6:7], Day: day, Period: code.Value(s[7])}, api.OK
		}
	}
	return api.Stamp{}, api.ErrNone
}

// 6.2: years that end with the same digit, around 2100, and the 366th day.
func TestRead(t *testing.T) {
	ends := func(year int) int { n, _ := code.DayOf(api.Date{Year: year, Month: 12, Day: 31}); return n }
	for _, c := range []struct {
		made, near, day int
	}{
		{59, 59, 59}, {59, 60, 59}, {59, 3652, 59},
		// ten years and three leap days later the same digit comes again
		{0, 3652, 0}, {0, 3653, 3653}, {0, 3654, 3653}, {59, 3653 + 58, 59}, {59, 3653 + 59, 3653 + 59},
		{1, 3653, 1}, {lastDay, lastDay, lastDay},
		// of the years that end with 9 the one before the last one of the calendar
		{lastDay, lastDay - 1, ends(2189)},
		// from 2097 to 2107 there is one leap day
		{ends(2097), ends(2107) - 1, ends(2097)}, {ends(2097), ends(2107), ends(2107)},
		{ends(2097), ends(2097) + 3650, ends(2097)}, {ends(2097), ends(2097) + 3651, ends(2107)},
		// a 366th day is one of 20 years, but of 40 around 2100, which has none
		{365, 365, 365}, {365, ends(2010), 365}, {365, ends(2020) - 1, 365}, {365, ends(2020), ends(2020)},
		{ends(2080), ends(2100), ends(2080)}, {ends(2080), ends(2110), ends(2080)}, {ends(2080), ends(2120) - 1, ends(2080)}, {ends(2080), ends(2120), ends(2120)},
		{ends(2096), ends(2106), ends(2096)}, {ends(2096), ends(2115), ends(2096)}, {ends(2096), ends(2116), ends(2116)},
		// the 365th day is one of 2100, too
		{ends(2090), ends(2100) - 1, ends(2090)}, {ends(2090), ends(2100), ends(2100)},
		{ends(2080) - 1, ends(2100), ends(2100)},
	} {
		x := stamp(c.made, 3)
		s, _ := code.Print(x)
		x.Day = c.day
		if y, e := code.Read(s, c.near); y != x || e != api.OK {
			t.Errorf("what was made on the day %d is on the day %d read as %v, %d", c.made, c.near, y, e)
		}
	}
}

// 6.2: all signs for a day of the year, with all years' digits, as they are found day by day.
func TestReadDayByDay(t *testing.T) {
	none := 0
	for number := range 366 {
		for digit := range 10 {
			s := sealed("A17" + signs[digit:digit+1] + signs[number/31:number/31+1] + signs[number%31:number%31+1] + "2" + signs[number%31:number%31+1])
			for _, near := range numbers(3, 10*number+digit, 0, lastDay) {
				want, wanted := read(s, near)
				if x, e := code.Read(s, near); x != want || e != wanted {
					t.Errorf("Read(%q, %d) = %v, %d, not %v, %d", s, near, x, e, want, wanted)
				}
				if wanted != api.OK {
					none++
				}
			}
		}
	}
	if none < 100 {
		t.Errorf("%d times no day fits", none)
	}
}

// 6.2: the errors of Read, and their order.
func TestReadErrors(t *testing.T) {
	for _, c := range []struct {
		s    string
		near int
		want api.Errno
	}{
		{"A1701U23", 59, api.ErrSyntax}, {"A1701U23u", -1, api.ErrSyntax}, {"", lastDay + 1, api.ErrSyntax},
		{"A1701U23V", 59, api.ErrCheck}, {"A1701U230", -1, api.ErrCheck},
		// neither sound nor with a day of a year
		{"A170WW230", 59, api.ErrCheck},
		{"A1701U23U", -1, api.ErrRange}, {"A1701U23U", lastDay + 1, api.ErrRange}, {"A1701U23U", math.MinInt, api.ErrRange}, {"A1701U23U", math.MaxInt, api.ErrRange},
		// 366 and more
		{sealed("A170BR23"), lastDay, api.ErrRange}, {sealed("A170C023"), lastDay, api.ErrRange}, {sealed("A170WW23"), lastDay, api.ErrRange},
		{sealed("A17ABR23"), lastDay, api.ErrRange},
		{sealed("A17A0023"), -1, api.ErrRange},
		{"A1701U23U", 58, api.ErrNone}, {"A1701U23U", 0, api.ErrNone}, {"A1701U23U", 59, api.OK},
		{sealed("A1710023"), 365, api.ErrNone}, {sealed("A1710023"), 366, api.OK},
		// a sign that is no year's digit
		{sealed("A17A0023"), lastDay, api.ErrNone}, {sealed("A17W1U23"), 59, api.ErrNone},
		// the 366th day of years that are never leap years, or of which no leap year has come
		{sealed("A171BQ23"), lastDay, api.ErrNone}, {sealed("A173BQ23"), lastDay, api.ErrNone}, {sealed("A175BQ23"), lastDay, api.ErrNone}, {sealed("A177BQ23"), lastDay, api.ErrNone}, {sealed("A179BQ23"), lastDay, api.ErrNone},
		{sealed("A170BQ23"), 364, api.ErrNone}, {sealed("A170BQ23"), 365, api.OK},
		{sealed("A172BQ23"), 12*365 + 3, api.ErrNone}, {sealed("A172BQ23"), 13*365 + 3, api.OK},
	} {
		x, e := code.Read(c.s, c.near)
		if e != c.want || e != api.OK && x != (api.Stamp{}) {
			t.Errorf("Read(%q, %d) = %v, %d, not %d", c.s, c.near, x, e, c.want)
		}
	}
	for _, s := range noTexts {
		if x, e := code.Read(s, 59); x != (api.Stamp{}) || e != api.ErrSyntax {
			t.Errorf("Read(%q) = %v, %d", s, x, e)
		}
	}
}

// P6.3, P7
func TestReadBack(t *testing.T) {
	again := 0
	for seed := range 4000 {
		x := anyStamp(seed)
		s, _ := code.Print(x)
		for _, later := range []int{0, 1, 365, 366, 3649, 3650, 3651, 3652, 3653, 7305, 14609} {
			near := x.Day + later
			if near > lastDay {
				continue
			}
			y, e := code.Read(s, near)
			if e != api.OK || later < 3651 && y != x {
				t.Errorf("%v is read back %d days later as %v, %d", x, later, y, e)
			}
			if made, _ := code.Print(y); made != s || y.Day > near {
				t.Errorf("%v says %q, and %v, as which it is read, %q", x, s, y, made)
			}
			if y != x {
				again++
			}
		}
	}
	if again < 1000 {
		t.Errorf("only %d times the same digit and day came again", again)
	}
}

// P6.3: on each of the days, on its last good one.
func TestReadEveryDay(t *testing.T) {
	for day := range lastDay + 1 {
		x := stamp(day, day%31)
		s, _ := code.Print(x)
		for _, near := range []int{day, min(day+3650, lastDay)} {
			if y, e := code.Read(s, near); y != x || e != api.OK {
				t.Errorf("%v is read on the day %d as %v, %d", x, near, y, e)
			}
		}
	}
}

// 6.5
func TestAround(t *testing.T) {
	for _, c := range []struct {
		x    api.Stamp
		back int
		want []api.Stamp
	}{
		{stamp(59, 3), 0, []api.Stamp{stamp(59, 3)}},
		{stamp(59, 3), 2, []api.Stamp{stamp(59, 1), stamp(59, 2), stamp(59, 3)}},
		{stamp(59, 3), 3, []api.Stamp{stamp(59, 0), stamp(59, 1), stamp(59, 2), stamp(59, 3)}},
		{stamp(59, 3), 5, []api.Stamp{stamp(58, 29), stamp(58, 30), stamp(59, 0), stamp(59, 1), stamp(59, 2), stamp(59, 3)}},
		{stamp(59, 0), 1, []api.Stamp{stamp(58, 30), stamp(59, 0)}},
		{stamp(0, 0), 0, []api.Stamp{stamp(0, 0)}},
		{stamp(0, 1), 1, []api.Stamp{stamp(0, 0), stamp(0, 1)}},
		{stamp(1, 0), 1, []api.Stamp{stamp(0, 30), stamp(1, 0)}},
		{stamp(366, 1), 2, []api.Stamp{stamp(365, 30), stamp(366, 0), stamp(366, 1)}},
	} {
		if l, e := code.Around(c.x, c.back); !slices.Equal(l, c.want) || e != api.OK {
			t.Errorf("Around(%v, %d) = %v, %d", c.x, c.back, l, e)
		}
	}
	for _, c := range []struct {
		x    api.Stamp
		back int
	}{{stamp(0, 30), 30}, {stamp(1, 0), 30}, {stamp(lastDay, 30), 30}, {stamp(lastDay, 29), 30}, {api.Stamp{Plant: "W", Product: "JP", Line: "0", Day: 77, Period: 9}, 30}} {
		l, e := code.Around(c.x, c.back)
		if len(l) != c.back+1 || e != api.OK || l[c.back] != c.x {
			t.Errorf("Around(%v, %d) = %v, %d", c.x, c.back, l, e)
			continue
		}
		for i, x := range l[:c.back] {
			next := l[i+1]
			follows := next.Day == x.Day && next.Period == x.Period+1 || next.Day == x.Day+1 && next.Period == 0 && x.Period == 30
			if x.Day, x.Period = c.x.Day, c.x.Period; x != c.x || !follows {
				t.Errorf("Around(%v, %d) = %v", c.x, c.back, l)
			}
		}
	}
}

// 6.5
func TestAroundErrors(t *testing.T) {
	for _, c := range []struct {
		x    api.Stamp
		back int
	}{
		{stamp(59, 3), -1}, {stamp(59, 3), 31}, {stamp(59, 3), math.MinInt}, {stamp(59, 3), math.MaxInt},
		// before the first day
		{stamp(0, 0), 1}, {stamp(0, 0), 30}, {stamp(0, 3), 4}, {stamp(0, 3), 30}, {stamp(0, 29), 30}, {stamp(0, 30), 31}, {stamp(0, 30), -1},
	} {
		if l, e := code.Around(c.x, c.back); len(l) != 0 || e != api.ErrRange {
			t.Errorf("Around(%v, %d) = %v, %d", c.x, c.back, l, e)
		}
	}
	for _, x := range badStamps() {
		for _, back := range []int{-1, 0, 5, 31} {
			if l, e := code.Around(x, back); len(l) != 0 || e != api.ErrInvalid {
				t.Errorf("Around(%v, %d) = %v, %d", x, back, l, e)
			}
		}
	}
}

// 6.5
func TestClash(t *testing.T) {
	other := func(change func(*api.Stamp)) api.Stamp {
		x := stamp(59, 3)
		change(&x)
		return x
	}
	for _, c := range []struct {
		l    []api.Stamp
		want [][2]int
	}{
		{nil, nil},
		{[]api.Stamp{stamp(59, 3)}, nil},
		// equal ones do not count
		{[]api.Stamp{stamp(59, 3), stamp(59, 3)}, nil},
		{[]api.Stamp{stamp(59, 3), stamp(60, 3), stamp(59, 4), stamp(59+366, 3)}, nil},
		// ten years later
		{[]api.Stamp{stamp(59, 3), stamp(59+3653, 3)}, [][2]int{{0, 1}}},
		{[]api.Stamp{stamp(59+3653, 3), stamp(59, 3)}, [][2]int{{0, 1}}},
		{[]api.Stamp{stamp(59+3653, 3), stamp(59, 3), stamp(59, 3), stamp(7, 7), stamp(59+3653, 3)}, [][2]int{{0, 1}, {0, 2}, {1, 4}, {2, 4}}},
		{[]api.Stamp{stamp(0, 3), stamp(3653, 3), stamp(3653+3652, 3)}, [][2]int{{0, 1}, {0, 2}, {1, 2}}},
		{[]api.Stamp{stamp(0, 3), stamp(36525, 3), stamp(36525+364, 3), stamp(364, 3), stamp(365, 3)}, [][2]int{{0, 1}, {2, 3}}},
		// two pairs, one within the other
		{[]api.Stamp{stamp(0, 3), stamp(1, 3), stamp(3654, 3), stamp(3653, 3)}, [][2]int{{0, 3}, {1, 2}}},
		{[]api.Stamp{
			stamp(59, 3),
			other(func(x *api.Stamp) { x.Plant, x.Day = "B", 59+3653 }),
			other(func(x *api.Stamp) { x.Product, x.Day = "71", 59+3653 }),
			other(func(x *api.Stamp) { x.Line, x.Day = "3", 59+3653 }),
			other(func(x *api.Stamp) { x.Period, x.Day = 4, 59+3653 }),
		}, nil},
	} {
		if l, e := code.Clash(c.l); !slices.Equal(l, c.want) || e != api.OK {
			t.Errorf("Clash(%v) = %v, %d", c.l, l, e)
		}
	}
}

// 6.5: what clashes is what is printed alike.
func TestClashOfMany(t *testing.T) {
	var l []api.Stamp
	for _, n := range numbers(500, 1, 0, 199) {
		l = append(l, stamp(3653*(n/20)+n%20*17, 3))
	}
	var want [][2]int
	for a := range l {
		for b := a + 1; b < len(l); b++ {
			s, _ := code.Print(l[a])
			if r, _ := code.Print(l[b]); r == s && l[a] != l[b] {
				want = append(want, [2]int{a, b})
			}
		}
	}
	if pairs, e := code.Clash(l); !slices.Equal(pairs, want) || e != api.OK || len(want) < 500 {
		t.Errorf("Clash has %d pairs, not %d: %d", len(pairs), len(want), e)
	}
	if pairs, e := code.Clash(append(l, l[0])); len(pairs) != 0 || e != api.ErrLimit {
		t.Errorf("Clash of 501 has %d pairs, %d", len(pairs), e)
	}
	for _, x := range badStamps() {
		for _, m := range [][]api.Stamp{{x}, {stamp(59, 3), x}, {x, stamp(59, 3)}, slices.Concat(l, l, []api.Stamp{x})} {
			if pairs, e := code.Clash(m); len(pairs) != 0 || e != api.ErrInvalid {
				t.Errorf("Clash with %v has %d pairs, %d", x, len(pairs), e)
			}
		}
	}
}
