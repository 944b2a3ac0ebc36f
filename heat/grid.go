package heat

import (
	"iter"

	"cannery/api"
)

// grid is a valid can with a body's temperatures, of which only the can's places count. It is a value, so that the temperatures before a tick stay as they are while those after it are reckoned.
type grid struct {
	api.Can
	temps  [api.MaxRings * api.MaxLayers]int
	broken bool
}

// gridOf makes a grid of a can and a body that is valid for it.
func gridOf(c api.Can, x api.Body) grid {
	g := grid{Can: c, broken: x.Broken}
	copy(g.temps[:], x.Temps)
	return g
}

func (g *grid) body() api.Body {
	temps := make([]int, g.places())
	copy(temps, g.temps[:])
	return api.Body{Temps: temps, Broken: g.broken}
}

func (g *grid) places() int { return g.Rings * g.Layers }

// after returns the grid after a tick in a bath.
func (g *grid) after(bath int) grid {
	next := *g
	for l := range g.Layers {
		for r := range g.Rings {
			next.temps[l*g.Rings+r] = g.mixed(r, l, bath)
		}
	}
	_, coldest := next.coldest()
	if g.Break > 0 && coldest >= g.Break {
		next.broken = true
	}
	return next
}

// mixed returns what a place's temperature becomes in a tick in a bath.
func (g *grid) mixed(r, l, bath int) int {
	radial, axial := g.conduction()
	across := 2 * radial * (r*g.near(r-1, l, bath) + (r+1)*g.near(r+1, l, bath))
	along := axial * (g.near(r, l-1, bath) + g.near(r, l+1, bath))
	own := (perMille - 2*radial - 2*axial) * g.near(r, l, bath)
	width := 2*r + 1
	return floor(across+width*(along+own), perMille*width)
}

func (g *grid) conduction() (radial, axial int) {
	if g.broken {
		return g.Radial2, g.Axial2
	}
	return g.Radial, g.Axial
}

// near returns the temperature at a ring and a layer: the bath's where the can has none. (Within the ring 0 it is the bath's too, but has no weight.)
func (g *grid) near(r, l, bath int) int {
	if !within(r, 0, g.Rings-1) || !within(l, 0, g.Layers-1) {
		return bath
	}
	return g.temps[l*g.Rings+r]
}

// floor returns the quotient rounded down, where Go rounds towards 0.
func floor(n, by int) int {
	q := n / by
	if n%by < 0 {
		q--
	}
	return q
}

func (g *grid) coldest() (place, t int) {
	return g.foremost(func(t, than int) bool { return t < than })
}

func (g *grid) hottest() (place, t int) {
	return g.foremost(func(t, than int) bool { return t > than })
}

// foremost returns the first place whose temperature no other one goes before.
func (g *grid) foremost(before func(t, than int) bool) (place, t int) {
	t = g.temps[0]
	for i, other := range g.temps[:g.places()] {
		if before(other, t) {
			place, t = i, other
		}
	}
	return place, t
}

// during yields how many ticks have gone, and the grid then: at first none, then one in each bath.
func (g *grid) during(baths []int) iter.Seq2[int, grid] {
	return func(yield func(int, grid) bool) {
		now := *g
		if !yield(0, now) {
			return
		}
		for i, bath := range baths {
			now = now.after(bath)
			if !yield(i+1, now) {
				return
			}
		}
	}
}
