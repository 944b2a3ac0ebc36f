package code

import "cannery/api"

// ValidStamp reports whether a stamp is valid.
func ValidStamp(x api.Stamp) bool {
	return spelt(x.Plant, 1) && spelt(x.Product, 2) && spelt(x.Line, 1) && isDay(x.Day) && within(x.Period, 0, periods-1)
}

// Print returns the code of a stamp.
func Print(x api.Stamp) (string, api.Errno) {
	if !ValidStamp(x) {
		return "", api.ErrInvalid
	}
	return printed(x), api.OK
}

// printed is Print of a valid stamp.
func printed(x api.Stamp) string {
	year, number := yearOf(x.Day)
	v, _ := valuesOf(x.Plant + x.Product + textOf(year%10, number/base, number%base) + x.Line + textOf(x.Period, 0))
	return v.mended(check).text()
}

// Read returns the latest stamp not after a day that a code may say.
func Read(s string, near int) (api.Stamp, api.Errno) {
	v, ok := valuesOf(s)
	if !ok {
		return api.Stamp{}, api.ErrSyntax
	}
	if !v.sound() {
		return api.Stamp{}, api.ErrCheck
	}
	number := v[4]*base + v[5]
	if number > 365 || !isDay(near) {
		return api.Stamp{}, api.ErrRange
	}
	day, ok := latest(v[3], number, near)
	if !ok {
		return api.Stamp{}, api.ErrNone
	}
	return api.Stamp{Plant: s[:1], Product: s[1:3], Line: s[6:7], Day: day, Period: v[7]}, api.OK
}

// latest returns the latest day, not after another one, with a number in a year with a last digit; not ok if there is none.
func latest(digit, number, near int) (day int, ok bool) {
	for year, _ := yearOf(near); year >= firstYear; year-- {
		day = startOf(year) + number
		if year%10 == digit && day < startOf(year+1) && day <= near {
			return day, true
		}
	}
	return 0, false
}

// Around returns the stamps that cans of a period may bear: its own, and those of some periods before it.
func Around(x api.Stamp, back int) ([]api.Stamp, api.Errno) {
	if !ValidStamp(x) {
		return nil, api.ErrInvalid
	}
	passed := x.Day*periods + x.Period // since the first period of the first day
	if !within(back, 0, min(mostBack, passed)) {
		return nil, api.ErrRange
	}
	var l []api.Stamp
	for at := passed - back; at <= passed; at++ {
		x.Day, x.Period = at/periods, at%periods
		l = append(l, x)
	}
	return l, api.OK
}

// Clash returns the pairs of different stamps that have the same code.
func Clash(l []api.Stamp) ([][2]int, api.Errno) {
	for _, x := range l {
		if !ValidStamp(x) {
			return nil, api.ErrInvalid
		}
	}
	if len(l) > mostSeen {
		return nil, api.ErrLimit
	}
	codes := make([]string, len(l))
	for i, x := range l {
		codes[i] = printed(x)
	}
	var pairs [][2]int
	for a := range l {
		for b := a + 1; b < len(l); b++ {
			if codes[a] == codes[b] && l[a] != l[b] {
				pairs = append(pairs, [2]int{a, b})
			}
		}
	}
	return pairs, api.OK
}
