package heat_test

import (
	"math"
	"slices"
	"testing"

	"cannery/api"
	"cannery/heat"
)

// P2.1, R1, R7: every call ends, none panics, and a second call answers the same, whatever the arguments.
func TestExtremes(t *testing.T) {
	ints := []int{math.MinInt, -250001, -250000, api.MinTemp, -1, 0, 1, 47, 48, api.MaxTemp, 250000, 250001, math.MaxInt}
	for _, c := range append(cans(), invalids()...) {
		bodies := append(spoilt(large()), spoilt(small())...)
		if heat.ValidCan(c) {
			bodies = append(bodies, body(c, 1, api.MinTemp, api.MaxTemp))
		}
		for _, x := range bodies {
			for i, a := range ints {
				b := ints[len(ints)-1-i]
				if first, second := answers(c, x, a, b), answers(c, x, a, b); !slices.Equal(first, second) {
					t.Errorf("two answers: %v, %v", first, second)
				}
			}
		}
	}
}

// answers calls each function, and lists the results.
func answers(c api.Can, x api.Body, a, b int) []int {
	l := []int{oneIf(heat.ValidCan(c)), oneIf(heat.ValidBody(c, x)), heat.Places(c), oneIf(heat.Stirred(c))}
	add := func(e api.Errno, more ...int) { l = append(append(l, more...), int(e)) }
	addBody := func(y api.Body, e api.Errno) {
		add(e, y.Temps...)
		add(e, oneIf(y.Broken), oneIf(heat.Below(x, y)), oneIf(heat.Same(y, x)))
	}
	addList := func(m []int, e api.Errno) { add(e, m...) }
	addInt := func(n int, e api.Errno) { add(e, n) }
	addPlace := func(place, t int, e api.Errno) { add(e, place, t) }
	addBody(heat.Even(c, a))
	addBody(heat.Step(c, x, a))
	addBody(heat.Run(c, x, []int{a, b}))
	addBody(heat.Turned(c, x))
	addBody(heat.Shifted(c, x, a))
	addPlace(heat.Coldest(c, x))
	addPlace(heat.Hottest(c, x))
	addInt(heat.Centre(c, x))
	addInt(heat.Until(c, x, a, b))
	addList(heat.Cold(c, x, []int{a, a}))
	addList(heat.At(c, x, []int{0, 0}, a))
	list, e := heat.Follow(c, x, []int{a, a, b})
	for _, y := range list {
		addBody(y, e)
	}
	return l
}

// P2.1, R4: arguments are read only, also beyond their length, and no memory is shared.
func TestNothingIsShared(t *testing.T) {
	for _, c := range cans() {
		n := c.Rings * c.Layers
		temps, ways := numbers(n+3, 4, 0, 100000), numbers(8, 5, 0, 100000)
		x, baths := api.Body{Temps: temps[:n]}, ways[:5]
		before, waysBefore := slices.Clone(temps), slices.Clone(ways)
		want := results(c, x, baths)
		got := results(c, x, baths)
		for i := range got {
			all := got[i][:cap(got[i])]
			for j := range all {
				all[j] = -7
			}
			for k := i + 1; k < len(got); k++ {
				if !slices.Equal(got[k], want[k]) {
					t.Fatalf("the results %d and %d of %v share memory", i, k, c)
				}
			}
		}
		if !slices.Equal(temps, before) || !slices.Equal(ways, waysBefore) {
			t.Errorf("the arguments are now %v, %v", temps, ways)
		}
		for i, l := range results(c, x, baths) {
			if !slices.Equal(l, want[i]) {
				t.Errorf("the result %d of %v has changed", i, c)
			}
		}
	}
}

// results lists all the lists of numbers that the functions return.
func results(c api.Can, x api.Body, baths []int) [][]int {
	var l [][]int
	addBody := func(y api.Body, e api.Errno) { l = append(l, y.Temps) }
	addList := func(m []int, e api.Errno) { l = append(l, m) }
	addBody(heat.Even(c, 20000))
	addBody(heat.Step(c, x, 20000))
	addBody(heat.Run(c, x, baths))
	addBody(heat.Run(c, x, nil))
	addBody(heat.Turned(c, x))
	addBody(heat.Shifted(c, x, 0))
	addList(heat.Cold(c, x, baths))
	addList(heat.At(c, x, baths, 0))
	list, _ := heat.Follow(c, x, baths)
	for _, y := range list {
		l = append(l, y.Temps)
	}
	heat.Coldest(c, x)
	heat.Hottest(c, x)
	heat.Centre(c, x)
	heat.Until(c, x, 20000, 20000)
	heat.Below(x, x)
	heat.Same(x, x)
	return l
}

// P2.2 (Between)
func TestBetween(t *testing.T) {
	for seed, c := range cans() {
		for _, width := range []int{0, 1, 3, 100, 80000} {
			x := body(c, seed, 30000-width, 30000+width)
			x.Broken = c.Break > 0 && seed%2 == 0
			for _, bath := range []int{api.MinTemp, 30000 - width, 30000, 30001, 30000 + width, api.MaxTemp} {
				y, e := heat.Step(c, x, bath)
				least, most := min(slices.Min(x.Temps), bath), max(slices.Max(x.Temps), bath)
				if e != api.OK || slices.Min(y.Temps) < least || slices.Max(y.Temps) > most {
					t.Errorf("%v of %v in %d is %v, %d", x, c, bath, y, e)
				}
			}
		}
	}
}

// P2.3 (Hotter is hotter), P3
func TestHotter(t *testing.T) {
	for _, c := range unbroken() {
		for seed := range 20 {
			x, baths := body(c, seed, -40000, 150000), numbers(50, seed+50, -40000, 150000)
			y, hotter := api.Body{Temps: raised(x.Temps, seed)}, raised(baths, seed+1)
			cold, _ := heat.Follow(c, x, baths)
			hot, e := heat.Follow(c, y, hotter)
			if e != api.OK || len(hot) != len(cold) {
				t.Fatalf("Follow: %d bodies, %d", len(hot), e)
			}
			for i := range cold {
				if !heat.Below(cold[i], hot[i]) {
					t.Fatalf("after %d ticks of %v %v is not below %v", i, c, cold[i], hot[i])
				}
			}
		}
	}
}

// raised makes some temperatures hotter, a third of them by nothing, with a small seed by little.
func raised(l []int, seed int) []int {
	m := slices.Clone(l)
	for i, more := range numbers(len(l), seed, 0, 2) {
		m[i] += more * (1 + 30*seed*seed)
	}
	return m
}

// P2.4 (Shift)
func TestShift(t *testing.T) {
	for seed, c := range unbroken() {
		x, baths := body(c, seed, 0, 90000), numbers(50, seed, 0, 90000)
		y, _ := heat.Run(c, x, baths)
		for _, by := range []int{-50000, -49999, -33333, -1, 0, 1, 7, 100000, 110000} {
			moved, e := heat.Shifted(c, x, by)
			if e != api.OK {
				t.Fatalf("%v is not shifted by %d: %d", x, by, e)
			}
			other := slices.Clone(baths)
			for i := range other {
				other[i] += by
			}
			z, _ := heat.Run(c, moved, other)
			want, e := heat.Shifted(c, y, by)
			if e != api.OK || !heat.Same(z, want) {
				t.Errorf("%v of %v shifted by %d is %v, not %v", x, c, by, z, want)
			}
		}
	}
}

// P2.5
func TestEvenBaths(t *testing.T) {
	for _, c := range cans() {
		for _, at := range []int{api.MinTemp, -33333, -1, 0, 1, 99999, api.MaxTemp} {
			x, _ := heat.Even(c, at)
			list, e := heat.Follow(c, x, slices.Repeat([]int{at}, 20))
			for _, y := range list {
				if e != api.OK || !heat.Same(x, y) {
					t.Errorf("%v of %v in its own bath is %v, %d", x, c, y, e)
				}
			}
		}
	}
	for _, c := range unbroken() {
		for _, at := range []int{api.MinTemp, -1, 20000} {
			for _, more := range []int{0, 1, 2, 5, 1000, 99999} {
				x, _ := heat.Even(c, at)
				list, e := heat.Follow(c, x, slices.Repeat([]int{at + more}, 100))
				for i := 1; i < len(list); i++ {
					if e != api.OK || !heat.Below(list[i-1], list[i]) {
						t.Errorf("%v of %v got colder: %v", list[i-1], c, list[i])
					}
				}
			}
		}
	}
}

// P2.6 (Upside down)
func TestUpsideDown(t *testing.T) {
	for seed, c := range cans() {
		for _, broken := range []bool{false, c.Break > 0} {
			x, baths := body(c, seed, 0, 150000), numbers(40, seed, 40000, 150000)
			x.Broken = broken
			y, _ := heat.Run(c, x, baths)
			want, _ := heat.Turned(c, y)
			turned, _ := heat.Turned(c, x)
			if z, e := heat.Run(c, turned, baths); e != api.OK || !heat.Same(z, want) {
				t.Errorf("%v of %v turned comes to %v, not %v", x, c, z, want)
			}
		}
	}
}

// P2.7
func TestRunsAddUp(t *testing.T) {
	for seed, c := range cans() {
		x, baths := body(c, seed, 0, 100000), numbers(60, seed+3, 0, 200000)
		want, _ := heat.Run(c, x, baths)
		for cut := range len(baths) + 1 {
			y, _ := heat.Run(c, x, baths[:cut])
			if z, e := heat.Run(c, y, baths[cut:]); e != api.OK || !heat.Same(z, want) {
				t.Errorf("%v of %v after %d and the other ticks is %v, not %v", x, c, cut, z, want)
			}
		}
	}
}

// P2.7
func TestUntilIsLeast(t *testing.T) {
	for seed, c := range cans() {
		x := body(c, seed, 0, 60000)
		for _, bath := range []int{api.MinTemp, 60000, 121000, api.MaxTemp} {
			cold, _ := heat.Cold(c, x, slices.Repeat([]int{bath}, api.MaxRun))
			// so that the entry n is that after n ticks
			cold = slices.Insert(cold, 0, slices.Min(x.Temps))
			for _, at := range append(numbers(10, seed, 0, 121000), cold[7], cold[7]+1, cold[400], cold[400]+1) {
				n, e := heat.Until(c, x, bath, at)
				want := slices.IndexFunc(cold, func(t int) bool { return t >= at })
				if want < 0 && (n != 0 || e != api.ErrNone) || want >= 0 && (n != want || e != api.OK) {
					t.Errorf("%v of %v in %d until %d: %d, %d", x, c, bath, at, n, e)
				}
			}
		}
	}
}
