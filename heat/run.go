package heat

import (
	"slices"

	"cannery/api"
)

// Step returns the body after a tick in a bath.
func Step(c api.Can, x api.Body, bath int) (api.Body, api.Errno) {
	return Run(c, x, []int{bath})
}

// Run returns the body after a tick in each of some baths.
func Run(c api.Can, x api.Body, baths []int) (api.Body, api.Errno) {
	if e := check(c, x, baths); e != api.OK {
		return api.Body{}, e
	}
	g := gridOf(c, x)
	last := g
	for _, now := range g.during(baths) {
		last = now
	}
	return last.body(), api.OK
}

// Follow returns the body and those after each of the ticks.
func Follow(c api.Can, x api.Body, baths []int) ([]api.Body, api.Errno) {
	if e := check(c, x, baths); e != api.OK {
		return nil, e
	}
	g := gridOf(c, x)
	list := make([]api.Body, 0, len(baths)+1)
	for _, now := range g.during(baths) {
		list = append(list, now.body())
	}
	return list, api.OK
}

// check returns the errors that all functions of a body and baths share.
func check(c api.Can, x api.Body, baths []int) api.Errno {
	if !ValidBody(c, x) {
		return api.ErrInvalid
	}
	if !temperatures(baths) {
		return api.ErrRange
	}
	if len(baths) > api.MaxRun {
		return api.ErrLimit
	}
	return api.OK
}

// Coldest returns the first place with the least temperature.
func Coldest(c api.Can, x api.Body) (place, t int, e api.Errno) {
	return found(c, x, (*grid).coldest)
}

// Hottest returns the first place with the greatest temperature.
func Hottest(c api.Can, x api.Body) (place, t int, e api.Errno) {
	return found(c, x, (*grid).hottest)
}

func found(c api.Can, x api.Body, find func(*grid) (place, t int)) (place, t int, e api.Errno) {
	if !ValidBody(c, x) {
		return 0, 0, api.ErrInvalid
	}
	g := gridOf(c, x)
	place, t = find(&g)
	return place, t, api.OK
}

// Centre returns the temperature of the innermost ring in the middle layer, of two middle ones the upper.
func Centre(c api.Can, x api.Body) (int, api.Errno) {
	if !ValidBody(c, x) {
		return 0, api.ErrInvalid
	}
	return x.Temps[c.Layers/2*c.Rings], api.OK
}

// Cold returns the coldest temperature after each of some ticks.
func Cold(c api.Can, x api.Body, baths []int) ([]int, api.Errno) {
	if e := check(c, x, baths); e != api.OK {
		return nil, e
	}
	return told(c, x, baths, func(g *grid) int {
		_, t := g.coldest()
		return t
	}), api.OK
}

// At returns the temperature of a place after each of some ticks.
func At(c api.Can, x api.Body, baths []int, place int) ([]int, api.Errno) {
	if e := check(c, x, baths); e != api.OK {
		return nil, e
	}
	if !within(place, 0, Places(c)-1) {
		return nil, api.ErrName
	}
	return told(c, x, baths, func(g *grid) int { return g.temps[place] }), api.OK
}

// told returns what is told of the grid after each tick.
func told(c api.Can, x api.Body, baths []int, tell func(*grid) int) []int {
	g := gridOf(c, x)
	list := make([]int, 0, len(baths))
	for n, now := range g.during(baths) {
		if n > 0 {
			list = append(list, tell(&now))
		}
	}
	return list
}

// Until returns the least number of ticks in a constant bath after which the coldest place has at least the temperature t.
func Until(c api.Can, x api.Body, bath, t int) (int, api.Errno) {
	if e := check(c, x, []int{bath, t}); e != api.OK {
		return 0, e
	}
	g := gridOf(c, x)
	for n, now := range g.during(slices.Repeat([]int{bath}, api.MaxRun)) {
		if _, coldest := now.coldest(); coldest >= t {
			return n, api.OK
		}
	}
	return 0, api.ErrNone
}
