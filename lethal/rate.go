package lethal

import (
	"sort"

	"cannery/api"
)

const (
	mostExponent = 10 // where rates are cut
	ofMillionths = 6  // the exponent of what a rate is at Ref
	mostRate     = 10000000000000000
	mostTable    = 1000
)

// Root returns the greatest n with n to the power z at most 10 to the power e.
func Root(e, z int) (int, api.Errno) {
	if !within(z, 1, mostZ) || !within(e, 0, (mostExponent+ofMillionths)*z) {
		return 0, api.ErrRange
	}
	return root(e, z), api.OK
}

func root(e, z int) int {
	low := tenTo(e / z)
	limit := power(low, z)
	for range e % z {
		limit = limit.times(10)
	}
	// The root has as many digits as low.
	return low + sort.Search(9*low-1, func(more int) bool {
		return power(low+more+1, z).above(limit)
	})
}

func tenTo(exponent int) int {
	n := 1
	for range exponent {
		n *= 10
	}
	return n
}

// rates finds the rates of a valid killer; known keeps those that took a root, by their temperature.
type rates struct {
	killer api.Killer
	known  map[int]int
}

func ratesOf(k api.Killer) rates {
	return rates{killer: k, known: map[int]int{}}
}

// exponent returns Z times the exponent of 10 in the rate at t.
func (r rates) exponent(t int) int {
	z := r.killer.Z
	return ofMillionths*z + min(t-r.killer.Ref, mostExponent*z)
}

func (r rates) down(t int) int {
	e, z := r.exponent(t), r.killer.Z
	if e < 0 {
		return 0
	}
	whole, part := e/z, e%z
	if part == 0 {
		return tenTo(whole)
	}
	return r.digits(part) / tenTo(mostExponent+ofMillionths-1-whole)
}

// digits returns the rate in the decade below the cut whose exponent has this broken part. Rates whole decades apart are the same power but for zeros, so this one, cut at its end, begins with the digits of all of them, and only one root in a decade is needed.
func (r rates) digits(part int) int {
	z := r.killer.Z
	t := r.killer.Ref + (mostExponent-1)*z + part
	n, ok := r.known[t]
	if !ok {
		n = root(r.exponent(t), z)
		r.known[t] = n
	}
	return n
}

// up is one above the rate down but where the exponent is whole: other powers of ten are no whole numbers.
func (r rates) up(t int) int {
	e := r.exponent(t)
	if e >= 0 && e%r.killer.Z == 0 {
		return r.down(t)
	}
	return r.down(t) + 1
}

// Rate returns a killer's rate at t, rounded down.
func Rate(k api.Killer, t int) (int, api.Errno) {
	if e := checkTemperature(k, t); e != api.OK {
		return 0, e
	}
	return ratesOf(k).down(t), api.OK
}

// RateUp returns a killer's rate at t, rounded up.
func RateUp(k api.Killer, t int) (int, api.Errno) {
	if e := checkTemperature(k, t); e != api.OK {
		return 0, e
	}
	return ratesOf(k).up(t), api.OK
}

func checkTemperature(k api.Killer, t int) api.Errno {
	if !Valid(k) {
		return api.ErrInvalid
	}
	if !within(t, coldest, hottest) {
		return api.ErrRange
	}
	return api.OK
}

// Table returns the rates down at lo, lo + 1, .. hi.
func Table(k api.Killer, lo, hi int) ([]int, api.Errno) {
	if !Valid(k) {
		return nil, api.ErrInvalid
	}
	if !within(lo, coldest, hottest) || !within(hi, lo, hottest) || hi-lo > mostTable {
		return nil, api.ErrRange
	}
	r := ratesOf(k)
	list := make([]int, 0, hi-lo+1)
	for t := lo; t <= hi; t++ {
		list = append(list, r.down(t))
	}
	return list, api.OK
}

// Ticks returns the least number of ticks at t whose rates down add up to at least f.
func Ticks(k api.Killer, t, f int) (int, api.Errno) {
	if e := checkTemperature(k, t); e != api.OK {
		return 0, e
	}
	if e := checkLethality(k, f); e != api.OK {
		return 0, e
	}
	if f == 0 {
		return 0, api.OK
	}
	rate := ratesOf(k).down(t)
	if rate == 0 {
		return 0, api.ErrNone
	}
	return (f + rate - 1) / rate, api.OK
}

// Least returns the least temperature with at least a rate. There always is one: the hottest killer's rates are cut, and so greatest, well below the highest temperature.
func Least(k api.Killer, rate int) (int, api.Errno) {
	if !Valid(k) {
		return 0, api.ErrInvalid
	}
	if !within(rate, 0, mostRate) {
		return 0, api.ErrRange
	}
	r := ratesOf(k)
	return coldest + sort.Search(hottest-coldest, func(more int) bool {
		return r.down(coldest+more) >= rate
	}), api.OK
}
