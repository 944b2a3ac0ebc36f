package queue_test

import (
	"math"
	"slices"
	"testing"

	"cannery/api"
	"cannery/heat"
	"cannery/queue"
)

// soup is a can of one place, which goes 3 tenths of the way to the room in a tick.
func soup() api.Can { return api.Can{Rings: 1, Layers: 1, Radial: 100, Axial: 50} }

func tuna() api.Can { return api.Can{Rings: 3, Layers: 4, Radial: 40, Axial: 30} }

// jelly breaks.
func jelly() api.Can {
	return api.Can{Rings: 2, Layers: 3, Radial: 10, Axial: 20, Break: 60000, Radial2: 100, Axial2: 150}
}

func largest() api.Can { return api.Can{Rings: 6, Layers: 8, Radial: 100, Axial: 100} }

func cans() []api.Can { return []api.Can{soup(), tuna(), jelly(), largest()} }

func badCans() []api.Can {
	return []api.Can{{}, {Rings: 7, Layers: 1, Radial: 1}, {Rings: 1, Layers: 9, Radial: 1}, {Rings: 1, Layers: 1}, {Rings: 1, Layers: 1, Radial: 501}, {Rings: 1, Layers: 1, Radial: 1, Radial2: 1}, {Rings: math.MaxInt, Layers: math.MaxInt, Radial: 1}}
}

var badTemps = []int{math.MinInt, -50001, 200001, math.MaxInt}

// 7.4
func TestCooled(t *testing.T) {
	for _, c := range []struct {
		can                  api.Can
		t, room, ticks, want int
	}{
		{soup(), 120000, 20000, 0, 120000},
		{soup(), 120000, 20000, 1, 90000},
		{soup(), 120000, 20000, 2, 69000},
		{soup(), 20000, 120000, 1, 50000},
		{soup(), 20000, 20000, 2000, 20000},
		{soup(), 0, -1, 1, -1}, // rounded down
		{soup(), 200000, -50000, 0, 200000},
		{soup(), -50000, 200000, 0, -50000},
		{tuna(), 100000, 0, 1, 92200},  // the outermost ring of the lowest layer
		{tuna(), 0, 100000, 1, 0},      // the innermost ring of a middle layer
		{jelly(), 100000, 0, 1, 71666}, // broken from the first tick on
		{jelly(), 50000, 0, 1, 48333},
	} {
		if n, e := queue.Cooled(c.can, c.t, c.room, c.ticks); n != c.want || e != api.OK {
			t.Errorf("Cooled of %v = %d, %d", c, n, e)
		}
	}
}

// cooled follows the sentence about a can that stood in a room.
func cooled(c api.Can, t, room, ticks int) int {
	x, _ := heat.Even(c, t)
	x, _ = heat.Run(c, x, slices.Repeat([]int{room}, ticks))
	_, n, _ := heat.Coldest(c, x)
	return n
}

// 7.4
func TestCooledByItsSentence(t *testing.T) {
	for seed := range 120 {
		l := numbers(3, seed, -50000, 200000)
		for _, c := range cans() {
			for _, ticks := range []int{0, 1, 2, l[2] & 63, 1999 * (seed % 40 / 39), 2000 * (seed % 40 / 39)} {
				if n, e := queue.Cooled(c, l[0], l[1], ticks); n != cooled(c, l[0], l[1], ticks) || e != api.OK {
					t.Errorf("Cooled(%v, %d, %d, %d) = %d, %d", c, l[0], l[1], ticks, n, e)
				}
			}
		}
	}
}

// 7.4, R2, R3: also the room of no ticks must be one.
func TestCooledErrors(t *testing.T) {
	ticks := []int{math.MinInt, -1, 2001, math.MaxInt}
	for _, at := range append(badTemps, 20000) {
		for _, room := range append(badTemps, 20000) {
			for _, n := range append(ticks, 0, 10) {
				for _, c := range badCans() {
					if x, e := queue.Cooled(c, at, room, n); x != 0 || e != api.ErrInvalid {
						t.Errorf("Cooled(%v, %d, %d, %d) = %d, %d", c, at, room, n, x, e)
					}
				}
				if at == 20000 && room == 20000 && n >= 0 && n <= 10 {
					continue
				}
				for _, c := range cans() {
					if x, e := queue.Cooled(c, at, room, n); x != 0 || e != api.ErrRange {
						t.Errorf("Cooled(%v, %d, %d, %d) = %d, %d", c, at, room, n, x, e)
					}
				}
			}
		}
	}
}

// 7.4: a wait below 0 counts as 0, one above 2,000 as 2,000.
func TestInitials(t *testing.T) {
	l := came(100, 100, 100, 100, 200, 10000)
	x := starts([2]int{0, 100}, [2]int{1, 101}, [2]int{2, 102}, [2]int{3, 0}, [2]int{4, 199}, [2]int{5, 10001})
	if n, e := queue.Initials(soup(), 120000, 20000, l, x); !slices.Equal(n, []int{120000, 90000, 69000, 120000, 120000, 90000}) || e != api.OK {
		t.Errorf("Initials = %v, %d", n, e)
	}
	if n, e := queue.Initials(soup(), 120000, 20000, nil, nil); len(n) != 0 || e != api.OK {
		t.Errorf("Initials of no baskets = %v, %d", n, e)
	}
	// a can that is still cooling after 2,000 ticks
	slow := api.Can{Rings: 6, Layers: 8, Radial: 1}
	l = came(0, 0, 0, 0, 0)
	x = starts([2]int{0, 1999}, [2]int{0, 2000}, [2]int{0, 2001}, [2]int{0, last}, [2]int{0, 0})
	before, end := cooled(slow, 200000, -50000, 1999), cooled(slow, 200000, -50000, 2000)
	if n, e := queue.Initials(slow, 200000, -50000, l, x); !slices.Equal(n, []int{before, end, end, end, 200000}) || before <= end || e != api.OK {
		t.Errorf("Initials = %v, %d, not %d, %d", n, e, before, end)
	}
}

// 7.4
func TestInitialsByTheirSentence(t *testing.T) {
	for seed := range 60 {
		c, temps := cans()[seed%4], numbers(2, seed, -50000, 200000)
		l := some(seed, seed, 100)
		x := someStarts(seed, seed, 150)
		n, e := queue.Initials(c, temps[0], temps[1], l, x)
		if len(n) != len(l) || e != api.OK {
			t.Errorf("Initials = %v, %d", n, e)
		}
		for i, at := range n {
			if want := cooled(c, temps[0], temps[1], max(0, x[i].At-l[i].Came)); at != want {
				t.Errorf("the basket %d has %d, not %d", i, at, want)
			}
		}
	}
}

// 7.4, R2, R3
func TestInitialsErrors(t *testing.T) {
	l, x := came(1, 2), starts([2]int{0, 1}, [2]int{0, 50})
	for _, temps := range [][2]int{{20000, 20000}, {badTemps[0], 20000}, {20000, badTemps[1]}, {badTemps[2], 20000}, {20000, badTemps[3]}, {badTemps[3], badTemps[0]}, {badTemps[1], 20000}, {20000, badTemps[2]}} {
		for _, c := range badCans() {
			if n, e := queue.Initials(c, temps[0], temps[1], l, x); len(n) != 0 || e != api.ErrInvalid {
				t.Errorf("Initials of %v = %v, %d", c, n, e)
			}
		}
		for _, c := range unfit() {
			if n, e := queue.Initials(tuna(), temps[0], temps[1], c.l, c.x); len(n) != 0 || e != api.ErrInvalid {
				t.Errorf("Initials of %v = %v, %d", c, n, e)
			}
		}
		if temps == [2]int{20000, 20000} {
			continue
		}
		for _, none := range []bool{true, false} {
			l, x := l, x
			if none {
				l, x = nil, nil
			}
			if n, e := queue.Initials(tuna(), temps[0], temps[1], l, x); len(n) != 0 || e != api.ErrRange {
				t.Errorf("Initials at %v = %v, %d", temps, n, e)
			}
		}
	}
}
