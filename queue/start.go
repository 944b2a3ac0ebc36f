package queue

import (
	"slices"

	"cannery/api"
)

// validStarts reports whether starts are valid without baskets.
func validStarts(x []api.Start) bool {
	if len(x) > api.MaxBaskets {
		return false
	}
	for _, s := range x {
		if !within(s.Vessel, 0, api.MaxVessels-1) || !isTick(s.At) {
			return false
		}
	}
	return true
}

// validFor reports whether baskets are valid and there is a valid start for each of them, in order.
func validFor(l []api.Basket, x []api.Start) bool {
	if !ValidBaskets(l) || !validStarts(x) || len(x) != len(l) {
		return false
	}
	for i, s := range x {
		if s.Basket != i {
			return false
		}
	}
	return true
}

// times returns when starts are in a vessel, in ascending order.
func times(x []api.Start, number int) []int {
	var l []int
	for _, s := range x {
		if s.Vessel == number {
			l = append(l, s.At)
		}
	}
	slices.Sort(l)
	return l
}

// Waits returns for each basket how long it waits.
func Waits(l []api.Basket, x []api.Start) ([]int, api.Errno) {
	if !validFor(l, x) {
		return nil, api.ErrInvalid
	}
	return waits(l, x), api.OK
}

func waits(l []api.Basket, x []api.Start) []int {
	list := make([]int, 0, len(x))
	for i, s := range x {
		list = append(list, s.At-l[i].Came)
	}
	return list
}

// End returns when the last vessel is free again.
func End(x []api.Start, p int) (int, api.Errno) {
	if !validStarts(x) {
		return 0, api.ErrInvalid
	}
	if !isCook(p) {
		return 0, api.ErrRange
	}
	end := 0
	for _, s := range x {
		end = max(end, s.At+p)
	}
	return end, api.OK
}

// Busy returns the vessels that are busy at a tick.
func Busy(x []api.Start, p, t int) ([]int, api.Errno) {
	if !validStarts(x) {
		return nil, api.ErrInvalid
	}
	if !isCook(p) || !isTick(t) {
		return nil, api.ErrRange
	}
	var l []int
	for number := range api.MaxVessels {
		if slices.ContainsFunc(times(x, number), func(at int) bool { return at <= t && t < at+p }) {
			l = append(l, number)
		}
	}
	return l, api.OK
}

// Idle returns for how many ticks from one to another vessels are not busy, all of them together.
func Idle(x []api.Start, m, p, from, to int) (int, api.Errno) {
	if !validStarts(x) {
		return 0, api.ErrInvalid
	}
	if !isCount(m) || !isCook(p) || !isTick(to) || !within(from, 0, to) {
		return 0, api.ErrRange
	}
	n := 0
	for number := range m {
		n += to - from - used(times(x, number), p, from, to)
	}
	return n, api.OK
}

// used returns how many ticks from one to another are among the p ticks from one of some ascending ticks on.
func used(ticks []int, p, from, to int) int {
	n, counted := 0, from
	for _, at := range ticks {
		if begin, end := max(at, counted), min(at+p, to); begin < end {
			n += end - begin
			counted = end
		}
	}
	return n
}

// Waiting returns the indexes of the baskets that wait at a tick.
func Waiting(l []api.Basket, x []api.Start, t int) ([]int, api.Errno) {
	if !validFor(l, x) {
		return nil, api.ErrInvalid
	}
	if !isTick(t) {
		return nil, api.ErrRange
	}
	var which []int
	for i, s := range x {
		if l[i].Came <= t && t < s.At {
			which = append(which, i)
		}
	}
	return which, api.OK
}
