package queue

import (
	"iter"
	"slices"
	"sort"

	"cannery/api"
)

// ValidPlan reports whether starts are a plan.
func ValidPlan(l []api.Basket, m, p, w int, x []api.Start) bool {
	if !validFor(l, x) || !isCount(m) || !isCook(p) || !isWait(w) {
		return false
	}
	for i, s := range x {
		if s.Vessel >= m || !within(s.At, l[i].Came, l[i].Came+w) {
			return false
		}
	}
	for number := range m {
		if !apart(times(x, number), p) {
			return false
		}
	}
	return true
}

// apart reports whether ascending ticks are at least p apart.
func apart(ticks []int, p int) bool {
	for i := 1; i < len(ticks); i++ {
		if ticks[i]-ticks[i-1] < p {
			return false
		}
	}
	return true
}

// First returns the starts of first come first served, however long baskets wait.
func First(l []api.Basket, m, p int) ([]api.Start, api.Errno) {
	if !ValidBaskets(l) {
		return nil, api.ErrInvalid
	}
	if !isCount(m) || !isCook(p) {
		return nil, api.ErrRange
	}
	return slices.Collect(served(l, m, p)), api.OK
}

// served yields the starts of first come first served.
func served(l []api.Basket, m, p int) iter.Seq[api.Start] {
	return func(yield func(api.Start) bool) {
		free := poolOf(m)
		for i, b := range l {
			v := free.take()
			at := max(b.Came, v.free)
			if !yield(api.Start{Basket: i, Vessel: v.number, At: at}) {
				return
			}
			free.put(vessel{v.number, at + p})
		}
	}
}

// Plan returns the plan by first come first served, or a proof that there is no plan.
func Plan(l []api.Basket, m, p, w int) (x []api.Start, late api.Late, e api.Errno) {
	if !ValidBaskets(l) {
		return nil, api.Late{}, api.ErrInvalid
	}
	if !isCount(m) || !isCook(p) || !isWait(w) {
		return nil, api.Late{}, api.ErrRange
	}
	for s := range served(l, m, p) {
		x = append(x, s)
		if s.At > l[s.Basket].Came+w {
			return nil, reason(l, x, m), api.ErrNone
		}
	}
	return x, api.Late{}, api.OK
}

// reason returns the proof that the last basket, which starts too late by first come first served, or one before it is too late in each plan.
func reason(l []api.Basket, x []api.Start, m int) api.Late {
	last := len(x) - 1
	first := last
	// A basket that waited started when the one m places before it came out; so going back leads to one that did not wait, as the first m ones never do.
	for x[first].At > l[first].Came {
		first -= m
	}
	return api.Late{First: first, Last: last}
}

// Proved reports whether a proof that there is no plan is one.
func Proved(l []api.Basket, m, p, w int, late api.Late) bool {
	if !ValidBaskets(l) || !isCount(m) || !isCook(p) || !isWait(w) {
		return false
	}
	if !within(late.First, 0, late.Last) || late.Last >= len(l) {
		return false
	}
	n := late.Last - late.First
	return n > 0 && n%m == 0 && l[late.First].Came+n/m*p > l[late.Last].Came+w
}

// Vessels returns the least number of vessels with which there is a plan, and the proof that there is none with one less.
func Vessels(l []api.Basket, p, w int) (m int, late api.Late, e api.Errno) {
	for count := 1; count <= api.MaxVessels; count++ {
		_, proof, e := Plan(l, count, p, w)
		switch e {
		case api.OK:
			return count, late, api.OK
		case api.ErrNone:
			late = proof
		default:
			return 0, api.Late{}, e
		}
	}
	return 0, late, api.ErrNone
}

// Longest returns the most ticks for which vessels may be busy with a basket so that there is a plan.
func Longest(l []api.Basket, m, w int) (int, api.Errno) {
	if !ValidBaskets(l) {
		return 0, api.ErrInvalid
	}
	if !isCount(m) || !isWait(w) {
		return 0, api.ErrRange
	}
	// With fewer ticks no plan is lost: the search counts the numbers of ticks, from 1 on, with which there is one.
	p := sort.Search(api.MaxTick, func(fewer int) bool {
		_, _, e := Plan(l, m, fewer+1, w)
		return e != api.OK
	})
	if p == 0 {
		return 0, api.ErrNone
	}
	return p, api.OK
}
