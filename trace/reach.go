package trace

import (
	"slices"

	"cannery/api"
)

// Forward returns the lots that a lot may be in.
func Forward(l []api.Lot, u []api.Use, name string) ([]string, api.Errno) {
	g, e := graphOf(l, u, []string{name})
	if e != api.OK {
		return nil, e
	}
	return g.reached(g.ahead.reach(name)), api.OK
}

// Backward returns the lots that may be in a lot.
func Backward(l []api.Lot, u []api.Use, name string) ([]string, api.Errno) {
	g, e := graphOf(l, u, []string{name})
	if e != api.OK {
		return nil, e
	}
	return g.reached(g.behind.reach(name)), api.OK
}

// Path returns the first one of the shortest chains from a lot to another.
func Path(l []api.Lot, u []api.Use, from, to string) ([]string, api.Errno) {
	g, e := graphOf(l, u, []string{from}, []string{to})
	if e != api.OK {
		return nil, e
	}
	reach := g.behind.reach(to)
	if reach[from] == 0 {
		return nil, api.ErrNone
	}
	return g.ahead.chain(from, reach), api.OK
}

// Sources returns the lots into which no use goes.
func Sources(l []api.Lot, u []api.Use) ([]string, api.Errno) {
	g, e := graphOf(l, u)
	if e != api.OK {
		return nil, e
	}
	return g.without(g.behind), api.OK
}

// Ends returns the lots from which no use goes.
func Ends(l []api.Lot, u []api.Use) ([]string, api.Errno) {
	g, e := graphOf(l, u)
	if e != api.OK {
		return nil, e
	}
	return g.without(g.ahead), api.OK
}

// reach returns the lots that links lead to from some lots, each with the number of lots in a shortest chain to it.
func (k links) reach(names ...string) map[string]int {
	reach := make(map[string]int)
	for _, name := range names {
		reach[name] = 1
	}
	// The lots that are reached are looked at in the order in which they were, so that none is reached later than it can be.
	for todo := slices.Clone(names); len(todo) > 0; todo = todo[1:] {
		for _, next := range k[todo[0]] {
			if reach[next] == 0 {
				reach[next] = reach[todo[0]] + 1
				todo = append(todo, next)
			}
		}
	}
	return reach
}

// chain returns the first one of the shortest chains from a lot that links make to where all was reached from.
func (k links) chain(name string, reach map[string]int) []string {
	chain := []string{name}
	for left := reach[name] - 1; left > 0; left-- {
		at := slices.IndexFunc(k[name], func(next string) bool { return reach[next] == left })
		name = k[name][at]
		chain = append(chain, name)
	}
	return chain
}

// reached returns the lots that were reached, in their order.
func (g graph) reached(reach map[string]int) []string {
	return g.names(func(name string) bool { return reach[name] > 0 })
}
