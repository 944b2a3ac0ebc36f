package trace

import (
	"math/bits"
	"slices"

	"cannery/api"
)

// Common returns the lots that may be in all complaints.
func Common(l []api.Lot, u []api.Use, complaints []string) ([]string, api.Errno) {
	g, e := graphOf(l, u, complaints)
	if e != api.OK {
		return nil, e
	}
	behind := make(map[string]int) // how many complaints a lot may be in
	for _, complaint := range complaints {
		for name := range g.behind.reach(complaint) {
			behind[name]++
		}
	}
	return g.names(func(name string) bool { return behind[name] == len(complaints) }), api.OK
}

// Explains reports whether each complaint is explained by one of the causes.
func Explains(l []api.Lot, u []api.Use, causes, complaints []string) (bool, api.Errno) {
	g, e := graphOf(l, u, causes, complaints)
	if e != api.OK {
		return false, e
	}
	reach := g.ahead.reach(causes...)
	return !slices.ContainsFunc(complaints, func(name string) bool { return reach[name] == 0 }), api.OK
}

// Fewest returns the first one of the shortest lists of sources that explain all complaints.
func Fewest(l []api.Lot, u []api.Use, complaints []string) ([]string, api.Errno) {
	g, e := graphOf(l, u, complaints)
	if e != api.OK {
		return nil, e
	}
	if len(complaints) > mostComplaints {
		return nil, api.ErrLimit
	}
	every := uint64(1)<<len(complaints) - 1
	// For each set of complaints the best list of the sources looked at so far. They are looked at from the last one on, so that of two lists of the same length the one with the new source comes first.
	best := map[uint64][]string{0: nil}
	for _, source := range slices.Backward(g.without(g.behind)) {
		explained := g.explained(source, complaints)
		for set := range every + 1 {
			others, ok := best[set&^explained]
			if !ok || set&explained == 0 {
				continue
			}
			if list, ok := best[set]; !ok || len(others) < len(list) {
				best[set] = slices.Concat([]string{source}, others)
			}
		}
	}
	return best[every], api.OK
}

// Apart reports whether no source explains two complaints.
func Apart(l []api.Lot, u []api.Use, complaints []string) (bool, api.Errno) {
	g, e := graphOf(l, u, complaints)
	if e != api.OK {
		return false, e
	}
	for _, source := range g.without(g.behind) {
		if bits.OnesCount64(g.explained(source, complaints)) > 1 {
			return false, api.OK
		}
	}
	return true, api.OK
}

// explained returns the set of the complaints that a lot explains: a list has no more names than a word has bits.
func (g graph) explained(name string, complaints []string) uint64 {
	reach := g.ahead.reach(name)
	set := uint64(0)
	for i, complaint := range complaints {
		if reach[complaint] > 0 {
			set |= 1 << i
		}
	}
	return set
}
