package trace

import "cannery/api"

// Least returns how much of x is in y at least.
func Least(l []api.Lot, u []api.Use, x, y string) (int, api.Errno) {
	return content(l, u, x, y, leastPart)
}

// Most returns how much of x is in y at most.
func Most(l []api.Lot, u []api.Use, x, y string) (int, api.Errno) {
	return content(l, u, x, y, mostPart)
}

func content(l []api.Lot, u []api.Use, x, y string, p part) (int, api.Errno) {
	g, e := graphOf(l, u, []string{x}, []string{y})
	if e != api.OK {
		return 0, e
	}
	return g.contents(x, p)(y), api.OK
}

// Surely returns the lots in which a lot surely is.
func Surely(l []api.Lot, u []api.Use, name string) ([]string, api.Errno) {
	g, e := graphOf(l, u, []string{name})
	if e != api.OK {
		return nil, e
	}
	least := g.contents(name, leastPart)
	return g.names(func(y string) bool { return least(y) > 0 }), api.OK
}

// Left returns what is left of a lot, at least and at most.
func Left(l []api.Lot, u []api.Use, name string) (least, most int, e api.Errno) {
	g, e := graphOf(l, u, []string{name})
	if e != api.OK {
		return 0, 0, e
	}
	least, most = g.sizes[name], g.sizes[name]
	for _, x := range u {
		if x.From == name {
			least -= x.Most
			most -= x.Least
		}
	}
	return max(least, 0), max(most, 0), api.OK
}

// part is how much of a lot comes with a use, if the use's From has the given size and content of it.
type part func(x api.Use, size, content int) int

// leastPart takes what can be other than the lot to go first.
func leastPart(x api.Use, size, content int) int {
	return max(0, min(x.Least, size)-(size-content))
}

func mostPart(x api.Use, _, content int) int { return min(x.Most, content) }

// contents returns a function that reckons the content of a lot in any lot. It remembers what it has reckoned, as there may be very many chains.
func (g graph) contents(of string, p part) func(in string) int {
	known := map[string]int{of: g.sizes[of]}
	var content func(in string) int
	content = func(in string) int {
		if n, ok := known[in]; ok {
			return n
		}
		sum := 0
		for _, x := range g.into[in] {
			sum += p(x, g.sizes[x.From], content(x.From))
		}
		sum = min(sum, g.sizes[in])
		known[in] = sum
		return sum
	}
	return content
}
