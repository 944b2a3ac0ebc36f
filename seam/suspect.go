package seam

import (
	"cmp"
	"iter"
	"slices"

	"cannery/api"
)

// Suspect returns the stretches of ticks that are not safe for a head.
func Suspect(n api.Norm, l []api.Sheet, head, begin, end int) ([]api.Stretch, api.Errno) {
	if !ValidNorm(n) || !ValidSheets(l) {
		return nil, api.ErrInvalid
	}
	if !isHead(head) || !ran(begin, end) {
		return nil, api.ErrRange
	}
	return closer{checksOf(l, goodBy(n)), []int{head}}.held(begin, end), api.OK
}

// Held returns the stretches of ticks that are not safe for some head.
func Held(n api.Norm, l []api.Sheet, heads, begin, end int) ([]api.Stretch, api.Errno) {
	if !ValidNorm(n) || !ValidSheets(l) {
		return nil, api.ErrInvalid
	}
	if !isHead(heads) || !ran(begin, end) {
		return nil, api.ErrRange
	}
	return closer{checksOf(l, goodBy(n)), upTo(heads)}.held(begin, end), api.OK
}

// Safe reports whether a tick is safe for all heads.
func Safe(n api.Norm, l []api.Sheet, heads, t int) (bool, api.Errno) {
	if !ValidNorm(n) || !ValidSheets(l) {
		return false, api.ErrInvalid
	}
	if !isHead(heads) || !within(t, 0, api.MaxTick) {
		return false, api.ErrRange
	}
	c := closer{checksOf(l, goodBy(n)), upTo(heads)}
	return len(c.held(t, t+1)) == 0, api.OK
}

// Overdue returns the stretches of ticks at which some head's last sheet is too old, or missing.
func Overdue(l []api.Sheet, heads, every, begin, end int) ([]api.Stretch, api.Errno) {
	if !ValidSheets(l) {
		return nil, api.ErrInvalid
	}
	if !isHead(heads) || !ran(begin, end) || !within(every, 1, api.MaxTick) {
		return nil, api.ErrRange
	}
	// A bad teardown is one, too.
	c := closer{checksOf(l, func(api.Sheet) bool { return true }), upTo(heads)}
	return c.stretches(begin, end, func(last, next check) api.Stretch {
		return api.Stretch{From: last.tick + every, To: next.tick}
	}), api.OK
}

// Added returns the ticks at which further teardowns would help most.
func Added(n api.Norm, l []api.Sheet, heads, begin, end, most int) ([]int, api.Errno) {
	if !ValidNorm(n) || !ValidSheets(l) {
		return nil, api.ErrInvalid
	}
	if !isHead(heads) || !ran(begin, end) || !within(most, 0, mostAdded) {
		return nil, api.ErrRange
	}
	if end-begin > mostSearch {
		return nil, api.ErrLimit
	}
	c := closer{checksOf(l, goodBy(n)), upTo(heads)}
	var ticks []int
	for range most {
		t, ok := c.helpful(begin, end)
		if !ok {
			break
		}
		ticks = append(ticks, t)
		c = c.with(t)
	}
	return ticks, api.OK
}

// check is what a teardown tells of a head at its tick.
type check struct {
	tick, head int
	good       bool
}

// The ticks of the checks that stand for those that are missing.
const (
	longAgo = -api.MaxTick    // so long that what comes behind it is overdue, however seldom teardowns must be
	never   = api.MaxTick + 1 // it is behind all ticks
)

func checksOf(l []api.Sheet, good func(api.Sheet) bool) []check {
	checks := make([]check, 0, len(l))
	for _, x := range l {
		checks = append(checks, check{x.Tick, x.Head, good(x)})
	}
	return checks
}

// closer is the checks of a closer, in ascending order as sheets are, and those of its heads that count.
type closer struct {
	checks []check
	heads  []int
}

// pairs yields each two checks of a head that follow each other. A check that is missing, in front or at the end, is no good.
func (c closer) pairs(head int) iter.Seq2[check, check] {
	return func(yield func(last, next check) bool) {
		last := check{tick: longAgo, head: head}
		for _, next := range c.checks {
			if next.head != head {
				continue
			}
			if !yield(last, next) {
				return
			}
			last = next
		}
		yield(last, check{tick: never, head: head})
	}
}

// stretches returns the ticks from begin to end - 1 that a function tells of some pair of checks.
func (c closer) stretches(begin, end int, told func(last, next check) api.Stretch) []api.Stretch {
	var l []api.Stretch
	for _, head := range c.heads {
		for last, next := range c.pairs(head) {
			s := told(last, next)
			l = append(l, api.Stretch{From: max(s.From, begin), To: min(s.To, end)})
		}
	}
	return Union(l)
}

// held returns the stretches from begin to end - 1 that are not safe for some head.
func (c closer) held(begin, end int) []api.Stretch {
	return c.stretches(begin, end, func(last, next check) api.Stretch {
		if last.good && next.good {
			return api.Stretch{}
		}
		return api.Stretch{From: last.tick, To: next.tick}
	})
}

// helpful returns the first tick of those whose teardown leaves the least to be held; not ok if none leaves less than there is.
func (c closer) helpful(begin, end int) (tick int, ok bool) {
	least := Length(c.held(begin, end))
	for t := begin; t <= end; t++ {
		if n := Length(c.with(t).held(begin, end)); n < least {
			tick, least, ok = t, n, true
		}
	}
	return tick, ok
}

// with returns a closer with a further teardown, which is good for each head that has none at its tick.
func (c closer) with(tick int) closer {
	checks := slices.Clone(c.checks)
	for _, head := range c.heads {
		x := check{tick, head, true}
		if at, found := slices.BinarySearchFunc(checks, x, compare); !found {
			checks = slices.Insert(checks, at, x)
		}
	}
	return closer{checks, c.heads}
}

func compare(x, y check) int {
	return cmp.Or(cmp.Compare(x.tick, y.tick), cmp.Compare(x.head, y.head))
}
