package trace

import (
	"slices"

	"cannery/api"
)

// Recall returns all lots that may hold a bad one, and for each a shortest chain from a bad one to it.
func Recall(l []api.Lot, u []api.Use, bad []string) (hit []string, paths [][]string, e api.Errno) {
	g, e := graphOf(l, u, bad)
	if e != api.OK {
		return nil, nil, e
	}
	reach := g.ahead.reach(bad...)
	hit = g.reached(reach)
	for _, name := range hit {
		path := g.behind.chain(name, reach)
		slices.Reverse(path)
		paths = append(paths, path)
	}
	return hit, paths, api.OK
}

// Witnessed reports whether some lots are those that may hold a bad one, and whether the paths show it.
func Witnessed(l []api.Lot, u []api.Use, bad, hit []string, paths [][]string) bool {
	g, e := graphOf(l, u, bad)
	if e != api.OK || len(paths) != len(hit) || !slices.Equal(hit, g.reached(g.ahead.reach(bad...))) {
		return false
	}
	used := make(map[pair]bool)
	for _, x := range u {
		used[pairOf(x)] = true
	}
	for i, path := range paths {
		if !leads(path, bad, hit[i], used) {
			return false
		}
	}
	return true
}

// leads reports whether a path is a chain of uses from a bad lot to another.
func leads(path, bad []string, to string, used map[pair]bool) bool {
	if len(path) == 0 || !slices.Contains(bad, path[0]) || path[len(path)-1] != to {
		return false
	}
	for i := range len(path) - 1 {
		if !used[pair{path[i], path[i+1]}] {
			return false
		}
	}
	return true
}
