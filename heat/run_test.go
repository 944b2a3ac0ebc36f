package heat_test

import (
	"math"
	"math/big"
	"slices"
	"testing"

	"cannery/api"
	"cannery/heat"
)

// ticked is a tick, word for word from the chapter.
func ticked(c api.Can, x api.Body, b int) api.Body {
	at := func(r, l int) int { return x.Temps[l*c.Rings+r] }
	A, B := c.Radial, c.Axial
	if x.Broken {
		A, B = c.Radial2, c.Axial2
	}
	y := api.Body{Broken: x.Broken}
	for l := range c.Layers {
		for r := range c.Rings {
			in, out, below, above := 0, b, b, b
			if r > 0 {
				in = at(r-1, l)
			}
			if r < c.Rings-1 {
				out = at(r+1, l)
			}
			if l > 0 {
				below = at(r, l-1)
			}
			if l < c.Layers-1 {
				above = at(r, l+1)
			}
			n := 2*A*r*in + 2*A*(r+1)*out + (2*r+1)*(B*below+B*above+(1000-2*A-2*B)*at(r, l))
			// Div of the library rounds down, as the divisor is above 0
			q := new(big.Int).Div(big.NewInt(int64(n)), big.NewInt(int64(1000*(2*r+1))))
			y.Temps = append(y.Temps, int(q.Int64()))
		}
	}
	if c.Break > 0 && slices.Min(y.Temps) >= c.Break {
		y.Broken = true
	}
	return y
}

// 2.2, A tick, Examples: reckoned by hand.
func TestStep(t *testing.T) {
	rings := api.Can{Rings: 2, Layers: 1, Radial: 100, Axial: 50}
	layers := api.Can{Rings: 1, Layers: 3, Axial: 100}
	breaking := api.Can{Rings: 1, Layers: 1, Radial: 100, Axial: 50, Break: 50000, Radial2: 500}
	two := api.Can{Rings: 2, Layers: 1, Radial: 500, Break: 100, Axial2: 500}
	for _, k := range []struct {
		c    api.Can
		x    api.Body
		bath int
		want api.Body
	}{
		{small(), api.Body{Temps: []int{20000}}, 120000, api.Body{Temps: []int{50000}}},
		{small(), api.Body{Temps: []int{-1}}, 0, api.Body{Temps: []int{-1}}},
		{small(), api.Body{Temps: []int{0}}, -1, api.Body{Temps: []int{-1}}},
		{small(), api.Body{Temps: []int{0}}, 3, api.Body{Temps: []int{0}}},
		{small(), api.Body{Temps: []int{0}}, 4, api.Body{Temps: []int{1}}},
		{rings, api.Body{Temps: []int{0, 90}}, 1000, api.Body{Temps: []int{118, 296}}},
		{layers, api.Body{Temps: []int{0, 10, 20}}, 1000, api.Body{Temps: []int{101, 10, 117}}},
		// it breaks at just this temperature, not below
		{breaking, api.Body{Temps: []int{20000}}, 120000, api.Body{Temps: []int{50000}, Broken: true}},
		{breaking, api.Body{Temps: []int{19998}}, 120000, api.Body{Temps: []int{49998}}},
		// what is broken conducts otherwise, and stays broken
		{breaking, api.Body{Temps: []int{50000}, Broken: true}, 120000, api.Body{Temps: []int{120000}, Broken: true}},
		{breaking, api.Body{Temps: []int{50000}, Broken: true}, -50000, api.Body{Temps: []int{-50000}, Broken: true}},
		// what counts is the temperature after the tick
		{breaking, api.Body{Temps: []int{60000}}, 0, api.Body{Temps: []int{42000}}},
		{breaking, api.Body{Temps: []int{80000}}, 0, api.Body{Temps: []int{56000}, Broken: true}},
		// and the coldest place's
		{two, api.Body{Temps: []int{0, 0}}, 100000, api.Body{Temps: []int{0, 66666}}},
		{two, api.Body{Temps: []int{0, 99}}, 100000, api.Body{Temps: []int{99, 66666}}},
		{two, api.Body{Temps: []int{0, 100}}, 100000, api.Body{Temps: []int{100, 66666}, Broken: true}},
	} {
		y, e := heat.Step(k.c, k.x, k.bath)
		if e != api.OK || !heat.Same(y, k.want) {
			t.Errorf("%v of %v in %d is %v, %d", k.x, k.c, k.bath, y, e)
		}
	}
}

// 2.2
func TestTicks(t *testing.T) {
	for seed, c := range cans() {
		for _, start := range []api.Body{body(c, seed, api.MinTemp, api.MaxTemp), body(c, seed, -20, 20), body(c, seed, 80000, 100000)} {
			for _, broken := range []bool{false, c.Break > 0} {
				x := start
				x.Broken = broken
				baths := numbers(40, seed+7, api.MinTemp, api.MaxTemp)
				list, e := heat.Follow(c, x, baths)
				if e != api.OK || len(list) != len(baths)+1 || !heat.Same(list[0], x) {
					t.Fatalf("Follow(%v, %v): %d bodies, %d", c, x, len(list), e)
				}
				for i, bath := range baths {
					want := ticked(c, list[i], bath)
					if !heat.Same(list[i+1], want) {
						t.Fatalf("%v of %v in %d is %v, not %v", list[i], c, bath, list[i+1], want)
					}
					if y, e := heat.Step(c, list[i], bath); e != api.OK || !heat.Same(y, want) {
						t.Errorf("Step(%v, %v, %d) = %v, %d", c, list[i], bath, y, e)
					}
					if y, e := heat.Run(c, x, baths[:i]); e != api.OK || !heat.Same(y, list[i]) {
						t.Errorf("Run over %d baths = %v, %d", i, y, e)
					}
				}
			}
		}
	}
}

// 2.2: no baths, no ticks.
func TestNoTicks(t *testing.T) {
	for _, c := range cans() {
		x := body(c, 3, api.MinTemp, api.MaxTemp)
		// a Break that is passed is seen only after a tick
		for _, baths := range [][]int{nil, {}} {
			if y, e := heat.Run(c, x, baths); e != api.OK || !heat.Same(x, y) {
				t.Errorf("Run(%v, %v) = %v, %d", c, x, y, e)
			}
			if l, e := heat.Follow(c, x, baths); e != api.OK || len(l) != 1 || !heat.Same(x, l[0]) {
				t.Errorf("Follow(%v, %v) = %v, %d", c, x, l, e)
			}
			if l, e := heat.Cold(c, x, baths); e != api.OK || len(l) != 0 {
				t.Errorf("Cold(%v, %v) = %v, %d", c, x, l, e)
			}
			if l, e := heat.At(c, x, baths, 0); e != api.OK || len(l) != 0 {
				t.Errorf("At(%v, %v) = %v, %d", c, x, l, e)
			}
		}
	}
}

// 2.3
func TestColdest(t *testing.T) {
	c := api.Can{Rings: 2, Layers: 3, Radial: 1}
	for _, k := range []struct {
		temps                       []int
		cold, least, hot, most, mid int
	}{
		{[]int{1, 2, 3, 4, 5, 6}, 0, 1, 5, 6, 3},
		{[]int{6, 5, 4, 3, 2, 1}, 5, 1, 0, 6, 4},
		{[]int{7, 7, 7, 7, 7, 7}, 0, 7, 0, 7, 7},
		{[]int{5, 9, 3, 9, 3, 5}, 2, 3, 1, 9, 3},
		{[]int{-5, -9, -3, -9, -3, -5}, 1, -9, 2, -3, -3},
		{[]int{0, 200000, -50000, 200000, -50000, 0}, 2, -50000, 1, 200000, -50000},
	} {
		x := api.Body{Temps: k.temps}
		if place, least, e := heat.Coldest(c, x); place != k.cold || least != k.least || e != api.OK {
			t.Errorf("Coldest(%v) = %d, %d, %d", x, place, least, e)
		}
		if place, most, e := heat.Hottest(c, x); place != k.hot || most != k.most || e != api.OK {
			t.Errorf("Hottest(%v) = %d, %d, %d", x, place, most, e)
		}
		if mid, e := heat.Centre(c, x); mid != k.mid || e != api.OK {
			t.Errorf("Centre(%v) = %d, %d", x, mid, e)
		}
	}
}

// 2.3
func TestCentre(t *testing.T) {
	for rings := 1; rings <= api.MaxRings; rings++ {
		for layers := 1; layers <= api.MaxLayers; layers++ {
			c := api.Can{Rings: rings, Layers: layers, Radial: 1}
			x := api.Body{}
			for i := range rings * layers {
				x.Temps = append(x.Temps, 100*(i/rings)+i%rings)
			}
			if mid, e := heat.Centre(c, x); mid != 100*(layers/2) || e != api.OK {
				t.Errorf("Centre(%v) = %d, %d", c, mid, e)
			}
		}
	}
}

// 2.3
func TestCold(t *testing.T) {
	for seed, c := range cans() {
		x := body(c, seed, api.MinTemp, api.MaxTemp)
		baths := numbers(25, seed, api.MinTemp, api.MaxTemp)
		list, _ := heat.Follow(c, x, baths)
		cold, e := heat.Cold(c, x, baths)
		if e != api.OK || len(cold) != len(baths) {
			t.Fatalf("Cold: %d temperatures, %d", len(cold), e)
		}
		for i, at := range cold {
			if at != slices.Min(list[i+1].Temps) {
				t.Errorf("the coldest of %v is %d", list[i+1], at)
			}
		}
		for place := range c.Rings * c.Layers {
			temps, e := heat.At(c, x, baths, place)
			if e != api.OK || len(temps) != len(baths) {
				t.Fatalf("At: %d temperatures, %d", len(temps), e)
			}
			for i, at := range temps {
				if at != list[i+1].Temps[place] {
					t.Errorf("the place %d of %v is at %d", place, list[i+1], at)
				}
			}
		}
	}
}

// 2.3: ErrName comes after all other errors.
func TestNoSuchPlace(t *testing.T) {
	for _, c := range cans() {
		x, n := body(c, 1, 0, 1), c.Rings*c.Layers
		for _, place := range []int{-1, n, n + 1, math.MinInt, math.MaxInt} {
			for _, k := range []struct {
				baths []int
				e     api.Errno
			}{
				{nil, api.ErrName},
				{[]int{0}, api.ErrName},
				{[]int{api.MaxTemp + 1}, api.ErrRange},
				{make([]int, api.MaxRun+1), api.ErrLimit},
			} {
				if l, e := heat.At(c, x, k.baths, place); e != k.e || len(l) != 0 {
					t.Errorf("At %d = %v, %d", place, l, e)
				}
			}
			if l, e := heat.At(c, api.Body{}, nil, place); e != api.ErrInvalid || len(l) != 0 {
				t.Errorf("At %d = %v, %d", place, l, e)
			}
		}
	}
}

// 2.4
func TestUntil(t *testing.T) {
	breaking := api.Can{Rings: 1, Layers: 1, Radial: 100, Axial: 50, Break: 50000, Radial2: 500}
	for _, k := range []struct {
		c           api.Can
		at, bath, t int
		n           int
		e           api.Errno
	}{
		{small(), 20000, 120000, 20000, 0, api.OK},
		{small(), 20000, 120000, -50000, 0, api.OK},
		{small(), 20000, -50000, 20000, 0, api.OK},
		{small(), 20000, 120000, 20001, 1, api.OK},
		{small(), 20000, 120000, 50000, 1, api.OK},
		{small(), 20000, 120000, 50001, 2, api.OK},
		{small(), 20000, 120000, 71000, 2, api.OK},
		{small(), 20000, 120000, 120001, 0, api.ErrNone},
		// rounded down, it stays three below the bath
		{small(), 20000, 120000, 119998, 0, api.ErrNone},
		{breaking, 20000, 120000, 50000, 1, api.OK},
		{breaking, 20000, 120000, 120000, 2, api.OK},
		{small(), 20000, 20000, 20001, 0, api.ErrNone},
	} {
		x, _ := heat.Even(k.c, k.at)
		if n, e := heat.Until(k.c, x, k.bath, k.t); n != k.n || e != k.e {
			t.Errorf("%v from %d in %d until %d: %d, %d", k.c, k.at, k.bath, k.t, n, e)
		}
	}
	// all places count: after a tick they have 100 and 50
	layers := api.Can{Rings: 1, Layers: 2, Axial: 500}
	if n, e := heat.Until(layers, api.Body{Temps: []int{0, 100}}, 100, 51); n != 2 || e != api.OK {
		t.Errorf("Until = %d, %d", n, e)
	}
}

// 2.4: the last tick is the number MaxRun.
func TestUntilTheLast(t *testing.T) {
	slow := api.Can{Rings: 1, Layers: 1, Axial: 1}
	x := api.Body{Temps: []int{api.MinTemp}}
	cold, _ := heat.Cold(slow, x, slices.Repeat([]int{api.MaxTemp}, api.MaxRun))
	last := cold[api.MaxRun-1]
	if last <= cold[api.MaxRun-2] {
		t.Fatal("it no longer gets hotter")
	}
	if n, e := heat.Until(slow, x, api.MaxTemp, last); n != api.MaxRun || e != api.OK {
		t.Errorf("Until = %d, %d", n, e)
	}
	if n, e := heat.Until(slow, x, api.MaxTemp, last+1); n != 0 || e != api.ErrNone {
		t.Errorf("Until = %d, %d", n, e)
	}
}

// 2.4: the first tick counts, even if it gets colder again.
func TestUntilTheFirst(t *testing.T) {
	c := api.Can{Rings: 1, Layers: 2, Axial: 100}
	x := api.Body{Temps: []int{0, 100000}}
	cold, _ := heat.Cold(c, x, slices.Repeat([]int{0}, 100))
	most := slices.Max(cold)
	if most <= 1000 || cold[99] >= 1000 {
		t.Fatalf("it does not go up and down: %v", cold)
	}
	first := slices.IndexFunc(cold, func(at int) bool { return at >= 1000 })
	if n, e := heat.Until(c, x, 0, 1000); n != first+1 || e != api.OK {
		t.Errorf("Until = %d, %d", n, e)
	}
	if n, e := heat.Until(c, x, 0, most); n != slices.Index(cold, most)+1 || e != api.OK {
		t.Errorf("Until = %d, %d", n, e)
	}
	if n, e := heat.Until(c, x, 0, most+1); n != 0 || e != api.ErrNone {
		t.Errorf("Until = %d, %d", n, e)
	}
}

// calls are the functions of a can, a body and baths, each with how much it returned.
func calls(c api.Can, x api.Body, baths []int) map[string]func() (int, api.Errno) {
	return map[string]func() (int, api.Errno){
		"Run": func() (int, api.Errno) {
			y, e := heat.Run(c, x, baths)
			return len(y.Temps) + oneIf(y.Broken), e
		},
		"Follow": func() (int, api.Errno) {
			l, e := heat.Follow(c, x, baths)
			return len(l), e
		},
		"Cold": func() (int, api.Errno) {
			l, e := heat.Cold(c, x, baths)
			return len(l), e
		},
		"At": func() (int, api.Errno) {
			l, e := heat.At(c, x, baths, 0)
			return len(l), e
		},
	}
}

func oneIf(b bool) int {
	if b {
		return 1
	}
	return 0
}

// Errors, R2, R3: ErrRange comes before ErrLimit, and no error leaves a result.
func TestBathErrors(t *testing.T) {
	full := slices.Repeat([]int{20000}, api.MaxRun)
	long := slices.Repeat([]int{20000}, api.MaxRun+1)
	for _, c := range []api.Can{small(), large()} {
		x := body(c, 9, 0, 100000)
		for _, k := range []struct {
			baths []int
			e     api.Errno
		}{
			{[]int{api.MinTemp, api.MaxTemp}, api.OK},
			{full, api.OK},
			{long, api.ErrLimit},
			{[]int{api.MaxTemp + 1}, api.ErrRange},
			{[]int{api.MinTemp - 1}, api.ErrRange},
			{[]int{0, 0, math.MaxInt}, api.ErrRange},
			{[]int{math.MinInt, 0, 0}, api.ErrRange},
			{append(slices.Clone(full), api.MaxTemp+1), api.ErrRange},
			{append([]int{api.MinTemp - 1}, full...), api.ErrRange},
		} {
			for name, call := range calls(c, x, k.baths) {
				if n, e := call(); e != k.e || (n == 0) != (e != api.OK) {
					t.Errorf("%s of %d baths: %d results, %d", name, len(k.baths), n, e)
				}
			}
		}
		for _, bath := range []int{api.MinTemp - 1, api.MaxTemp + 1, math.MinInt, math.MaxInt} {
			if y, e := heat.Step(c, x, bath); e != api.ErrRange || len(y.Temps) != 0 || y.Broken {
				t.Errorf("Step in %d = %v, %d", bath, y, e)
			}
			// at once, but errors come first
			if n, e := heat.Until(c, x, bath, api.MinTemp); n != 0 || e != api.ErrRange {
				t.Errorf("Until in %d = %d, %d", bath, n, e)
			}
			if n, e := heat.Until(c, x, 20000, bath); n != 0 || e != api.ErrRange {
				t.Errorf("Until %d = %d, %d", bath, n, e)
			}
		}
	}
}

// Errors, R2, R3: a can or a body that is not valid comes before all else.
func TestInvalidFirst(t *testing.T) {
	for _, c := range cans() {
		for _, x := range spoilt(c) {
			refused(t, c, x)
		}
	}
	for _, c := range invalids() {
		n := max(0, min(c.Rings, 10)) * max(0, min(c.Layers, 10))
		refused(t, c, api.Body{Temps: make([]int, n)})
		refused(t, c, api.Body{Temps: make([]int, n), Broken: true})
	}
}

func refused(t *testing.T, c api.Can, x api.Body) {
	hot := slices.Repeat([]int{api.MaxTemp + 1}, api.MaxRun+1)
	all := map[string]func() (int, api.Errno){
		"Coldest": func() (int, api.Errno) {
			place, at, e := heat.Coldest(c, x)
			return place | at, e
		},
		"Hottest": func() (int, api.Errno) {
			place, at, e := heat.Hottest(c, x)
			return place | at, e
		},
		"Centre": func() (int, api.Errno) { return heat.Centre(c, x) },
		"Until":  func() (int, api.Errno) { return heat.Until(c, x, 0, api.MinTemp) },
		"Until, hot": func() (int, api.Errno) {
			return heat.Until(c, x, api.MaxTemp+1, api.MaxTemp+1)
		},
	}
	for name, call := range calls(c, x, []int{0}) {
		all[name] = call
	}
	for name, call := range calls(c, x, hot) {
		all[name+", hot"] = call
	}
	for name, y := range map[string]func() (api.Body, api.Errno){
		"Step":      func() (api.Body, api.Errno) { return heat.Step(c, x, 0) },
		"Step, hot": func() (api.Body, api.Errno) { return heat.Step(c, x, api.MaxTemp+1) },
		"Turned":    func() (api.Body, api.Errno) { return heat.Turned(c, x) },
		"Shifted":   func() (api.Body, api.Errno) { return heat.Shifted(c, x, 0) },
	} {
		all[name] = func() (int, api.Errno) {
			z, e := y()
			return len(z.Temps) + oneIf(z.Broken), e
		}
	}
	for name, call := range all {
		if n, e := call(); n != 0 || e != api.ErrInvalid {
			t.Errorf("%s of %v, %v = %d, %d", name, c, x, n, e)
		}
	}
}
