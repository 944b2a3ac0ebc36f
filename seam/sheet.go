package seam

import (
	"cmp"

	"cannery/api"
)

// ValidSheet reports whether a sheet is valid.
func ValidSheet(x api.Sheet) bool {
	return within(x.Tick, 0, api.MaxTick) &&
		isHead(x.Head) &&
		within(x.Wrinkle, 0, mostPerCent) &&
		allWithin(1, mostPlate, x.EndPlate, x.BodyPlate) &&
		allWithin(0, mostLength, x.BodyHook, x.CoverHook, x.Height, x.Thickness, x.Countersink)
}

// ValidSheets reports whether some sheets are valid.
func ValidSheets(l []api.Sheet) bool {
	if len(l) > api.MaxSheets {
		return false
	}
	for i, x := range l {
		if !ValidSheet(x) || i > 0 && !before(l[i-1], x) {
			return false
		}
	}
	return true
}

// before reports whether a sheet may come before another one in a list.
func before(x, y api.Sheet) bool {
	return cmp.Or(cmp.Compare(x.Tick, y.Tick), cmp.Compare(x.Head, y.Head)) < 0
}

// ValidNorm reports whether a norm is valid.
func ValidNorm(n api.Norm) bool {
	bounds := [...][2]int{{n.BodyLo, n.BodyHi}, {n.CoverLo, n.CoverHi}, {n.ThickLo, n.ThickHi}, {n.SinkLo, n.SinkHi}}
	for _, b := range bounds {
		if b[0] > b[1] || !allWithin(0, mostLength, b[0], b[1]) {
			return false
		}
	}
	return allWithin(0, mostPerCent, n.Percent, n.Wrinkle)
}

// Overlap returns the overlap of a sheet's seam.
func Overlap(x api.Sheet) (int, api.Errno) {
	if !ValidSheet(x) {
		return 0, api.ErrInvalid
	}
	return floor(overlap(x), 10), api.OK
}

// Percent returns how much of its room a seam overlaps.
func Percent(x api.Sheet) (int, api.Errno) {
	if !ValidSheet(x) {
		return 0, api.ErrInvalid
	}
	return percent(x), api.OK
}

// overlap is in tenths, and so exact.
func overlap(x api.Sheet) int { return 10*(x.BodyHook+x.CoverHook-x.Height) + 11*x.EndPlate }

// room is in tenths, and so exact.
func room(x api.Sheet) int { return 10*x.Height - 11*(2*x.EndPlate+x.BodyPlate) }

func percent(x api.Sheet) int {
	if room(x) <= 0 {
		return 0
	}
	return floor(100*overlap(x), room(x))
}

// fault is the word for what makes a sheet bad, with the function that tells whether a sheet has it.
type fault struct {
	word string
	in   func(api.Sheet) bool
}

// faultsBy lists what makes a sheet bad by a norm.
func faultsBy(n api.Norm) []fault {
	return []fault{
		{"body", outside(n.BodyLo, n.BodyHi, func(x api.Sheet) int { return x.BodyHook })},
		{"cover", outside(n.CoverLo, n.CoverHi, func(x api.Sheet) int { return x.CoverHook })},
		{"overlap", func(x api.Sheet) bool { return percent(x) < n.Percent }},
		{"wrinkle", func(x api.Sheet) bool { return x.Wrinkle > n.Wrinkle }},
		{"thickness", outside(n.ThickLo, n.ThickHi, func(x api.Sheet) int { return x.Thickness })},
		{"countersink", outside(n.SinkLo, n.SinkHi, func(x api.Sheet) int { return x.Countersink })},
	}
}

// outside makes the function that tells whether what is measured lies outside of its bounds.
func outside(lo, hi int, measured func(api.Sheet) int) func(api.Sheet) bool {
	return func(x api.Sheet) bool { return !within(measured(x), lo, hi) }
}

// goodBy makes the function that tells whether a sheet is good by a norm.
func goodBy(n api.Norm) func(api.Sheet) bool {
	faults := faultsBy(n)
	return func(x api.Sheet) bool {
		for _, f := range faults {
			if f.in(x) {
				return false
			}
		}
		return true
	}
}

// Good reports whether a sheet is good by a norm.
func Good(n api.Norm, x api.Sheet) (bool, api.Errno) {
	if !ValidNorm(n) || !ValidSheet(x) {
		return false, api.ErrInvalid
	}
	return goodBy(n)(x), api.OK
}

// Faults returns the words for what is not good in a sheet by a norm.
func Faults(n api.Norm, x api.Sheet) ([]string, api.Errno) {
	if !ValidNorm(n) || !ValidSheet(x) {
		return nil, api.ErrInvalid
	}
	var words []string
	for _, f := range faultsBy(n) {
		if f.in(x) {
			words = append(words, f.word)
		}
	}
	return words, api.OK
}

// Heads returns the heads that have sheets.
func Heads(l []api.Sheet) []int {
	if !ValidSheets(l) {
		return nil
	}
	without := map[int]bool{}
	for _, head := range upTo(api.MaxHeads) {
		without[head] = true
	}
	for _, x := range l {
		delete(without, x.Head)
	}
	var heads []int
	for _, head := range upTo(api.MaxHeads) {
		if !without[head] {
			heads = append(heads, head)
		}
	}
	return heads
}

// upTo returns the heads 1 to n.
func upTo(n int) []int {
	heads := make([]int, n)
	for i := range heads {
		heads[i] = i + 1
	}
	return heads
}
