package seam

import (
	"cmp"
	"slices"

	"cannery/api"
)

// Union returns the ticks of some stretches as the longest stretches.
func Union(l []api.Stretch) []api.Stretch {
	sorted := slices.Clone(l)
	slices.SortFunc(sorted, func(a, b api.Stretch) int { return cmp.Compare(a.From, b.From) })
	var union []api.Stretch
	for _, s := range sorted {
		last := len(union) - 1
		switch {
		case s.From >= s.To: // it has no ticks
		case last >= 0 && s.From <= union[last].To:
			union[last].To = max(union[last].To, s.To)
		default:
			union = append(union, s)
		}
	}
	return union
}

// Length returns the number of ticks that some stretches have together.
func Length(l []api.Stretch) int {
	n := 0
	for _, s := range Union(l) {
		n += s.To - s.From
	}
	return n
}
