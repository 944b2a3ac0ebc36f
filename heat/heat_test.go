package heat_test

import (
	"math"
	"slices"
	"testing"

	"cannery/api"
	"cannery/heat"
)

// small is the can of the chapter's example.
func small() api.Can { return api.Can{Rings: 1, Layers: 1, Radial: 100, Axial: 50} }

// large is a can with a Break and as many places as there may be.
func large() api.Can {
	return api.Can{Rings: 6, Layers: 8, Radial: 30, Axial: 20, Break: 90000, Radial2: 250, Axial2: 200}
}

// cans are valid, and at the ends of what is valid.
func cans() []api.Can {
	return []api.Can{
		small(),
		large(),
		{Rings: 1, Layers: 1, Radial: 1},
		{Rings: 1, Layers: 1, Axial: 1},
		{Rings: 6, Layers: 8, Radial: 500},
		{Rings: 6, Layers: 8, Axial: 500},
		{Rings: 6, Layers: 1, Radial: 250, Axial: 250},
		{Rings: 1, Layers: 8, Radial: 7, Axial: 193},
		{Rings: 3, Layers: 5, Radial: 111, Axial: 89},
		{Rings: 2, Layers: 2, Radial: 0, Axial: 1, Break: 1, Radial2: 500},
		{Rings: 2, Layers: 3, Radial: 1, Axial: 0, Break: 200000, Axial2: 500},
		{Rings: 4, Layers: 2, Radial: 400, Axial: 100, Break: 60000, Radial2: 1, Axial2: 0},
	}
}

// unbroken are those of the cans that have no Break.
func unbroken() []api.Can {
	return slices.DeleteFunc(cans(), func(c api.Can) bool { return c.Break > 0 })
}

// invalids differ from a valid can in one respect each.
func invalids() []api.Can {
	l := []api.Can{{}}
	add := func(change func(c *api.Can)) {
		c := large()
		change(&c)
		l = append(l, c)
	}
	for _, n := range []int{0, -1, 7, math.MinInt, math.MaxInt} {
		add(func(c *api.Can) { c.Rings = n })
	}
	for _, n := range []int{0, -1, 9, math.MinInt, math.MaxInt} {
		add(func(c *api.Can) { c.Layers = n })
	}
	for _, n := range []int{-1, 501, math.MinInt, math.MaxInt} {
		add(func(c *api.Can) { c.Radial, c.Axial = n, 0 })
		add(func(c *api.Can) { c.Radial, c.Axial = 0, n })
		add(func(c *api.Can) { c.Radial2, c.Axial2 = n, 0 })
		add(func(c *api.Can) { c.Radial2, c.Axial2 = 0, n })
	}
	// each in its range, but not their sum, or one out of it that the sum hides
	for _, p := range [][2]int{{0, 0}, {500, 1}, {1, 500}, {251, 250}, {500, 500}, {501, -1}, {-1, 501}, {2, -1}, {-1, 2}, {math.MaxInt, math.MaxInt}, {math.MinInt, math.MinInt}} {
		add(func(c *api.Can) { c.Radial, c.Axial = p[0], p[1] })
		add(func(c *api.Can) { c.Radial2, c.Axial2 = p[0], p[1] })
	}
	for _, n := range []int{0, -1, 200001, math.MinInt, math.MaxInt} {
		add(func(c *api.Can) { c.Break = n })
	}
	add(func(c *api.Can) { c.Break, c.Radial2 = 0, 0 })
	add(func(c *api.Can) { c.Break, c.Axial2 = 0, 0 })
	return l
}

// body makes a body for a can whose temperatures go up and down between two numbers.
func body(c api.Can, seed, least, most int) api.Body {
	return api.Body{Temps: numbers(c.Rings*c.Layers, seed, least, most)}
}

func numbers(n, seed, least, most int) []int {
	l := make([]int, n)
	for i := range l {
		seed = (seed*1103515245 + 12345) % 2147483648
		l[i] = least + seed/8%(most-least+1)
	}
	return l
}

// 2.1
func TestValidCan(t *testing.T) {
	for _, c := range cans() {
		if !heat.ValidCan(c) {
			t.Errorf("%v is not valid", c)
		}
		if n := heat.Places(c); n != c.Rings*c.Layers {
			t.Errorf("%v has %d places", c, n)
		}
		if heat.Stirred(c) != (c.Rings == 1 && c.Layers == 1) {
			t.Errorf("%v is stirred: %t", c, heat.Stirred(c))
		}
	}
	for _, c := range append(invalids(), api.Can{Rings: 1, Layers: 1}) {
		if heat.ValidCan(c) || heat.Places(c) != 0 || heat.Stirred(c) {
			t.Errorf("%v is valid", c)
		}
	}
}

// spoilt are bodies that are not valid for a can, whose Break is told.
func spoilt(c api.Can) []api.Body {
	n := c.Rings * c.Layers
	l := []api.Body{{Temps: make([]int, n-1)}, {Temps: make([]int, n+1)}, {}}
	for _, t := range []int{api.MinTemp - 1, api.MaxTemp + 1, math.MinInt, math.MaxInt} {
		for _, place := range []int{0, n - 1} {
			x := api.Body{Temps: make([]int, n)}
			x.Temps[place] = t
			l = append(l, x)
		}
	}
	if c.Break == 0 {
		l = append(l, api.Body{Temps: make([]int, n), Broken: true})
	}
	return l
}

// 2.1
func TestValidBody(t *testing.T) {
	for _, c := range cans() {
		for _, x := range []api.Body{body(c, 1, api.MinTemp, api.MaxTemp), body(c, 1, api.MinTemp, api.MinTemp), body(c, 1, api.MaxTemp, api.MaxTemp)} {
			if !heat.ValidBody(c, x) {
				t.Errorf("%v is not valid for %v", x, c)
			}
			x.Broken = true
			if heat.ValidBody(c, x) != (c.Break > 0) {
				t.Errorf("broken, %v is valid for %v: %t", x, c, c.Break == 0)
			}
		}
		for _, x := range spoilt(c) {
			if heat.ValidBody(c, x) {
				t.Errorf("%v is valid for %v", x, c)
			}
		}
	}
	for _, c := range invalids() {
		n := max(0, min(c.Rings, 10)) * max(0, min(c.Layers, 10))
		for _, x := range []api.Body{{Temps: make([]int, n)}, {Temps: make([]int, n), Broken: true}, {}} {
			if heat.ValidBody(c, x) {
				t.Errorf("%v is valid for %v", x, c)
			}
		}
	}
}

// 2.1
func TestEven(t *testing.T) {
	for _, c := range cans() {
		for _, at := range []int{api.MinTemp, -1, 0, 1, 59999, 60000, 89999, 90000, api.MaxTemp - 1, api.MaxTemp} {
			x, e := heat.Even(c, at)
			if e != api.OK || !heat.ValidBody(c, x) {
				t.Fatalf("Even(%v, %d) = %v, %d", c, at, x, e)
			}
			if !slices.Equal(x.Temps, slices.Repeat([]int{at}, c.Rings*c.Layers)) || x.Broken != (c.Break > 0 && at >= c.Break) {
				t.Errorf("Even(%v, %d) = %v", c, at, x)
			}
		}
		for _, at := range []int{api.MinTemp - 1, api.MaxTemp + 1, math.MinInt, math.MaxInt} {
			if x, e := heat.Even(c, at); len(x.Temps) != 0 || x.Broken || e != api.ErrRange {
				t.Errorf("Even(%v, %d) = %v, %d", c, at, x, e)
			}
		}
	}
	for _, c := range invalids() {
		for _, at := range []int{20000, api.MaxTemp + 1} {
			if x, e := heat.Even(c, at); len(x.Temps) != 0 || x.Broken || e != api.ErrInvalid {
				t.Errorf("Even(%v, %d) = %v, %d", c, at, x, e)
			}
		}
	}
}

// 2.5
func TestBelow(t *testing.T) {
	for _, c := range []struct {
		a, b  []int
		below bool
	}{
		{nil, nil, true},
		{nil, []int{}, true},
		{nil, []int{0}, false},
		{[]int{0}, nil, false},
		{[]int{1, 2}, []int{1, 2}, true},
		{[]int{1, 2}, []int{1, 3}, true},
		{[]int{1, 2}, []int{1, 1}, false},
		{[]int{2, 1}, []int{1, 1}, false},
		{[]int{0, 3}, []int{1, 2}, false},
		{[]int{0}, []int{1, 1}, false},
		{[]int{0, 0}, []int{1}, false},
		{[]int{math.MinInt}, []int{math.MaxInt}, true},
		{[]int{math.MaxInt}, []int{math.MinInt}, false},
	} {
		for _, broken := range []bool{false, true} {
			if heat.Below(api.Body{Temps: c.a, Broken: broken}, api.Body{Temps: c.b}) != c.below {
				t.Errorf("%v below %v: %t", c.a, c.b, !c.below)
			}
			if heat.Below(api.Body{Temps: c.a}, api.Body{Temps: c.b, Broken: broken}) != c.below {
				t.Errorf("%v below %v: %t", c.a, c.b, !c.below)
			}
		}
	}
}

// 2.5
func TestSame(t *testing.T) {
	for _, c := range []struct {
		a, b []int
		same bool
	}{
		{nil, nil, true},
		{nil, []int{}, true},
		{nil, []int{0}, false},
		{[]int{1, 2}, []int{1, 2}, true},
		{[]int{1, 2}, []int{1, 3}, false},
		{[]int{0, 2}, []int{1, 2}, false},
		{[]int{1, 2}, []int{1}, false},
		{[]int{math.MinInt}, []int{math.MinInt}, true},
		{[]int{math.MinInt}, []int{math.MaxInt}, false},
	} {
		for _, broken := range []bool{false, true} {
			a, b := api.Body{Temps: c.a, Broken: broken}, api.Body{Temps: c.b, Broken: broken}
			other := api.Body{Temps: c.b, Broken: !broken}
			if heat.Same(a, b) != c.same || heat.Same(b, a) != c.same {
				t.Errorf("%v is %v: %t", a, b, !c.same)
			}
			if heat.Same(a, other) || heat.Same(other, a) {
				t.Errorf("%v is %v", a, other)
			}
		}
	}
}

// 2.5
func TestTurned(t *testing.T) {
	c := api.Can{Rings: 2, Layers: 3, Radial: 1, Break: 5, Axial2: 1}
	for _, broken := range []bool{false, true} {
		x, e := heat.Turned(c, api.Body{Temps: []int{1, 2, 3, 4, 5, 6}, Broken: broken})
		if e != api.OK || x.Broken != broken || !slices.Equal(x.Temps, []int{5, 6, 3, 4, 1, 2}) {
			t.Errorf("Turned = %v, %d", x, e)
		}
	}
	for _, c := range cans() {
		x := body(c, 5, api.MinTemp, api.MaxTemp)
		x.Broken = c.Break > 0
		y, e := heat.Turned(c, x)
		for i, at := range y.Temps {
			r, l := i%c.Rings, i/c.Rings
			if at != x.Temps[(c.Layers-1-l)*c.Rings+r] {
				t.Errorf("the place %d of %v turned is at %d", i, x, at)
			}
		}
		z, f := heat.Turned(c, y)
		if e != api.OK || f != api.OK || !heat.Same(x, z) {
			t.Errorf("turned twice, %v is %v (%d, %d)", x, z, e, f)
		}
	}
}

// 2.5
func TestShifted(t *testing.T) {
	c := api.Can{Rings: 3, Layers: 1, Radial: 1, Break: 5, Axial2: 1}
	for _, k := range []struct {
		temps []int
		by    int
		want  []int
		e     api.Errno
	}{
		{[]int{1, 2, 3}, 0, []int{1, 2, 3}, api.OK},
		{[]int{1, 2, 3}, 10, []int{11, 12, 13}, api.OK},
		{[]int{1, 2, 3}, -10, []int{-9, -8, -7}, api.OK},
		{[]int{0, 0, 1}, 199999, []int{199999, 199999, 200000}, api.OK},
		{[]int{0, 0, 1}, 200000, nil, api.ErrRange},
		{[]int{1, 0, 0}, 200000, nil, api.ErrRange},
		{[]int{0, -1, 0}, -49999, []int{-49999, -50000, -49999}, api.OK},
		{[]int{0, -1, 0}, -50000, nil, api.ErrRange},
		{[]int{-50000, -50000, -50000}, 250000, []int{200000, 200000, 200000}, api.OK},
		{[]int{200000, 200000, 200000}, -250000, []int{-50000, -50000, -50000}, api.OK},
		{[]int{-50000, -50000, -50000}, 250001, nil, api.ErrRange},
		{[]int{200000, 200000, 200000}, -250001, nil, api.ErrRange},
		{[]int{200000, 0, -50000}, math.MaxInt, nil, api.ErrRange},
		{[]int{200000, 0, -50000}, math.MinInt, nil, api.ErrRange},
	} {
		for _, broken := range []bool{false, true} {
			x, e := heat.Shifted(c, api.Body{Temps: k.temps, Broken: broken}, k.by)
			if e != k.e || !slices.Equal(x.Temps, k.want) || x.Broken != (broken && e == api.OK) {
				t.Errorf("%v shifted by %d is %v, %d", k.temps, k.by, x, e)
			}
		}
	}
	for _, by := range []int{0, 250001, math.MinInt} {
		for _, x := range spoilt(c) {
			if y, e := heat.Shifted(c, x, by); e != api.ErrInvalid || len(y.Temps) != 0 || y.Broken {
				t.Errorf("%v shifted by %d is %v, %d", x, by, y, e)
			}
		}
	}
}
