package queue

import (
	"maps"
	"slices"

	"cannery/api"
)

// Clean reports whether crossings are clean.
func Clean(l []int) bool {
	inside, wrong := crossed(l)
	return wrong < 0 && len(inside) == 0
}

// Inside returns the baskets that went in and did not come out.
func Inside(l []int) ([]int, api.Errno) {
	inside, wrong := crossed(l)
	if wrong >= 0 {
		return nil, api.ErrOrder
	}
	return slices.Sorted(maps.Keys(inside)), api.OK
}

// Wrong returns the index of the first crossing that can't be, -1 if there is none.
func Wrong(l []int) int {
	_, wrong := crossed(l)
	return wrong
}

// crossed returns who is inside after the crossings up to the first one that can't be, and the index of this one, -1 if there is none.
func crossed(l []int) (inside map[int]bool, wrong int) {
	inside = make(map[int]bool)
	for i, n := range l {
		switch {
		case n > 0 && !inside[n]:
			inside[n] = true
		case n < 0 && inside[-n]: // of the least int this is the same, which never went in
			delete(inside, -n)
		default:
			return inside, i
		}
	}
	return inside, -1
}
