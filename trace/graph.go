package trace

import (
	"slices"

	"cannery/api"
)

// links name for each lot those beside it, in the order of the lots.
type links map[string][]string

// graph is a valid graph by the names of its lots.
type graph struct {
	lots          []api.Lot
	sizes         map[string]int
	into          map[string][]api.Use // the uses into a lot
	ahead, behind links                // the lots that a lot was used in, and those that were used in it
}

// graphOf returns a graph in which some lists of names are to be looked up: its error is Check's, or that of the lists.
func graphOf(l []api.Lot, u []api.Use, lists ...[]string) (graph, api.Errno) {
	if e := Check(l, u); e != api.OK {
		return graph{}, e
	}
	g := newGraph(l, u)
	return g, g.checkLists(lists)
}

func newGraph(l []api.Lot, u []api.Use) graph {
	g := graph{
		lots:   l,
		sizes:  make(map[string]int),
		into:   make(map[string][]api.Use),
		ahead:  make(links),
		behind: make(links),
	}
	from := make(map[string][]api.Use)
	for _, x := range u {
		g.into[x.To] = append(g.into[x.To], x)
		from[x.From] = append(from[x.From], x)
	}
	// Lot by lot, so that the links get their order without being sorted.
	for _, lot := range l {
		g.sizes[lot.Name] = lot.Size
		for _, x := range g.into[lot.Name] {
			g.ahead[x.From] = append(g.ahead[x.From], lot.Name)
		}
		for _, x := range from[lot.Name] {
			g.behind[x.To] = append(g.behind[x.To], lot.Name)
		}
	}
	return g
}

// checkLists returns the first error of some lists: an error of any list comes before the next error of all.
func (g graph) checkLists(lists [][]string) api.Errno {
	switch {
	case slices.ContainsFunc(lists, g.namesNoLot):
		return api.ErrName
	case slices.ContainsFunc(lists, namesTwice):
		return api.ErrDuplicate
	case slices.ContainsFunc(lists, namesTooMany):
		return api.ErrLimit
	}
	return api.OK
}

func (g graph) namesNoLot(names []string) bool {
	return slices.ContainsFunc(names, func(name string) bool {
		_, is := g.sizes[name]
		return !is
	})
}

func namesTwice(names []string) bool {
	seen := make(map[string]bool)
	for _, name := range names {
		if seen[name] {
			return true
		}
		seen[name] = true
	}
	return false
}

func namesTooMany(names []string) bool { return len(names) > mostNames }

// names returns the names of the lots that fit, in their order.
func (g graph) names(fits func(name string) bool) []string {
	var names []string
	for _, x := range g.lots {
		if fits(x.Name) {
			names = append(names, x.Name)
		}
	}
	return names
}

// without returns the lots that have no links.
func (g graph) without(k links) []string {
	return g.names(func(name string) bool { return len(k[name]) == 0 })
}
