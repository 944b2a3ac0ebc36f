package process_test

import (
	"math"
	"slices"
	"testing"

	"cannery/api"
	"cannery/heat"
	"cannery/lethal"
	"cannery/process"
	"cannery/retort"
)

const mostSum = 1000000000000000000

func spores() api.Killer { return api.Killer{Name: "spores", Ref: 484, Z: 40, D: 13, Goal: 12} }

// weak needs little, so that tests are quick.
func weak() api.Killer { return api.Killer{Name: "weak", Ref: 400, Z: 14, D: 5, Goal: 4} }

func vitamin() api.Killer { return api.Killer{Name: "vitamin", Ref: 484, Z: 60, D: 30, Goal: 1} }

// fierce is so fast that sums are cut.
func fierce() api.Killer { return api.Killer{Name: "fierce", Ref: -200, Z: 1, D: 1000000, Goal: 20} }

func killers() []api.Killer { return []api.Killer{spores(), weak(), vitamin(), fierce()} }

func badKillers() []api.Killer {
	return append(changed(spores(), func(k *api.Killer, n int) { k.Z = n }, math.MinInt, 0, 61, math.MaxInt), api.Killer{}, api.Killer{Name: "Spores", Ref: 484, Z: 40, D: 13, Goal: 12})
}

func stirred() api.Can { return api.Can{Rings: 1, Layers: 1, Radial: 100, Axial: 50} }

// swift takes the temperature of the bath at once.
func swift() api.Can { return api.Can{Rings: 1, Layers: 1, Radial: 500} }

func tall() api.Can { return api.Can{Rings: 2, Layers: 5, Radial: 90, Axial: 40} }

func large() api.Can { return api.Can{Rings: 6, Layers: 8, Radial: 30, Axial: 20} }

// gel conducts well once it is broken.
func gel() api.Can {
	return api.Can{Rings: 2, Layers: 3, Radial: 20, Axial: 10, Break: 95000, Radial2: 200, Axial2: 200}
}

// stiff conducts badly once it is broken.
func stiff() api.Can {
	return api.Can{Rings: 3, Layers: 2, Radial: 200, Axial: 100, Break: 70000, Radial2: 3, Axial2: 1}
}

func plain() []api.Can { return []api.Can{stirred(), swift(), tall(), large()} }

func cans() []api.Can { return append(plain(), gel(), stiff()) }

func badCans() []api.Can {
	return append(changed(tall(), func(c *api.Can, n int) { c.Rings = n }, math.MinInt, 0, 7, math.MaxInt), api.Can{}, api.Can{Rings: 1, Layers: 1, Radial: 100, Axial: 50, Radial2: 1})
}

// numbers makes n of them from least to most.
func numbers(n, seed, least, most int) []int {
	l := make([]int, n)
	for i := range l {
		seed = (seed*1103515245 + 12345) % 2147483648
		l[i] = least + seed/8%(most-least+1)
	}
	return l
}

// runs are baths to follow cans in.
func runs() [][]int {
	return [][]int{
		nil,
		{},
		{121000},
		{api.MinTemp},
		slices.Repeat([]int{121000}, 60),
		append(slices.Repeat([]int{128000}, 90), slices.Repeat([]int{15000}, 40)...),
		numbers(80, 3, api.MinTemp, api.MaxTemp),
		numbers(80, 4, 100000, 130000),
		{api.MaxTemp, api.MinTemp, 250, 249, -1, -250, -251, 0},
	}
}

// sumsOf adds up what lethal says of each place's temperatures.
func sumsOf(c api.Can, k api.Killer, initial int, baths []int, sum func(api.Killer, []int) (int, api.Errno)) []int {
	x, _ := heat.Even(c, initial)
	var l []int
	for place := range heat.Places(c) {
		temps, _ := heat.At(c, x, baths, place)
		f, _ := sum(k, temps)
		l = append(l, f)
	}
	return l
}

// 4.2: checked against lethal.Sum and lethal.SumUp of the temperatures of each place.
func TestLethality(t *testing.T) {
	for _, c := range cans() {
		for j, k := range killers() {
			for i, baths := range runs() {
				if heat.Places(c) > 20 && i%4 != j {
					continue // it takes long
				}
				initial := []int{20000, 96000, -30000, 120999, api.MaxTemp, api.MinTemp}[i%6]
				want := sumsOf(c, k, initial, baths, lethal.Sum)
				l, e := process.Places(c, k, initial, baths)
				if e != api.OK || !slices.Equal(l, want) {
					t.Errorf("Places(%v, %v, %d, %v) = %v, %d, not %v", c, k, initial, baths, l, e, want)
				}
				slow := 0
				for place, f := range want {
					if f < want[slow] {
						slow = place
					}
				}
				if place, f, e := process.Lethality(c, k, initial, baths); place != slow || f != want[slow] || e != api.OK {
					t.Errorf("Lethality(%v, %v, %d, %v) = %d, %d, %d", c, k, initial, baths, place, f, e)
				}
				if ok, e := process.Sterile(c, k, initial, baths); ok != (want[slow] >= lethal.Needs(k)) || e != api.OK {
					t.Errorf("Sterile(%v, %v, %d, %v) = %t, %d", c, k, initial, baths, ok, e)
				}
				most := slices.Max(sumsOf(c, k, initial, baths, lethal.SumUp))
				if f, e := process.Spoiled(c, k, initial, baths); f != most || e != api.OK {
					t.Errorf("Spoiled(%v, %v, %d, %v) = %d, %d, not %d", c, k, initial, baths, f, e, most)
				}
				x, _ := heat.Even(c, initial)
				cold, _ := heat.Cold(c, x, baths)
				least, _ := lethal.Sum(k, cold)
				if f, e := process.ByColdest(c, k, initial, baths); f != least || e != api.OK {
					t.Errorf("ByColdest(%v, %v, %d, %v) = %d, %d, not %d", c, k, initial, baths, f, e, least)
				}
			}
		}
	}
}

// 4.2: the first of several slowest places; the slowest one need not be the coldest at the end.
func TestSlowest(t *testing.T) {
	if place, f, e := process.Lethality(tall(), spores(), 121000, slices.Repeat([]int{121000}, 3)); place != 0 || f != 3000000 || e != api.OK {
		t.Errorf("Lethality = %d, %d, %d", place, f, e)
	}
	// four layers: the two in the middle are the same, the lower number counts
	c := api.Can{Rings: 2, Layers: 4, Radial: 50, Axial: 50}
	if place, f, e := process.Lethality(c, spores(), 20000, slices.Repeat([]int{125000}, 100)); place != 2 || f == 0 || e != api.OK {
		t.Errorf("Lethality = %d, %d, %d", place, f, e)
	}
}

// 4.2: by hand, in a can that takes the temperature of the bath at once.
func TestSwiftCan(t *testing.T) {
	baths := []int{121000, 121100, 111000, 20000}
	for name, c := range map[string]struct {
		call func(api.Can, api.Killer, int, []int) (int, api.Errno)
		f    int
	}{
		"ByColdest": {process.ByColdest, 2100000},
		"Spoiled":   {process.Spoiled, 2159255},
	} {
		if f, e := c.call(swift(), spores(), 20000, baths); f != c.f || e != api.OK {
			t.Errorf("%s = %d, %d", name, f, e)
		}
	}
	if place, f, e := process.Lethality(swift(), spores(), 20000, baths); place != 0 || f != 2100000 || e != api.OK {
		t.Errorf("Lethality = %d, %d, %d", place, f, e)
	}
}

// The details: the sums are cut, and nothing is sterile without baths.
func TestEndsOfSums(t *testing.T) {
	hot := slices.Repeat([]int{api.MaxTemp}, 2000)
	for _, n := range []int{99, 100, 101, 2000} {
		most := min(n*10000000000000000, mostSum)
		if _, f, e := process.Lethality(large(), fierce(), api.MaxTemp, hot[:n]); f != most || e != api.OK {
			t.Errorf("Lethality of %d = %d, %d", n, f, e)
		}
		if f, e := process.Spoiled(large(), fierce(), api.MaxTemp, hot[:n]); f != most || e != api.OK {
			t.Errorf("Spoiled of %d = %d, %d", n, f, e)
		}
		if f, e := process.ByColdest(large(), fierce(), api.MaxTemp, hot[:n]); f != most || e != api.OK {
			t.Errorf("ByColdest of %d = %d, %d", n, f, e)
		}
	}
	for _, c := range cans() {
		for _, k := range killers() {
			if l, e := process.Places(c, k, api.MaxTemp, nil); e != api.OK || !slices.Equal(l, make([]int, heat.Places(c))) {
				t.Errorf("Places of no baths = %v, %d", l, e)
			}
			if place, f, e := process.Lethality(c, k, api.MaxTemp, nil); place != 0 || f != 0 || e != api.OK {
				t.Errorf("Lethality of no baths = %d, %d, %d", place, f, e)
			}
			if ok, e := process.Sterile(c, k, api.MaxTemp, nil); ok || e != api.OK {
				t.Errorf("Sterile of no baths = %t, %d", ok, e)
			}
		}
	}
}

// 4.2: just what the killer needs is enough.
func TestSterile(t *testing.T) {
	hot := slices.Repeat([]int{121000}, 157)
	for n, want := range map[int]bool{0: false, 1: false, 155: false, 156: true, 157: true} {
		if ok, e := process.Sterile(stirred(), spores(), 121000, hot[:n]); ok != want || e != api.OK {
			t.Errorf("Sterile after %d = %t, %d", n, ok, e)
		}
	}
}

// byBaths calls all functions of a can, a killer, and baths.
func byBaths(c api.Can, k api.Killer, initial int, baths []int) map[string][]int {
	l, e1 := process.Places(c, k, initial, baths)
	place, f, e2 := process.Lethality(c, k, initial, baths)
	cold, e3 := process.ByColdest(c, k, initial, baths)
	spoiled, e4 := process.Spoiled(c, k, initial, baths)
	sterile, e5 := process.Sterile(c, k, initial, baths)
	return map[string][]int{
		"Places":    append([]int{int(e1)}, l...),
		"Lethality": {int(e2), place, f},
		"ByColdest": {int(e3), cold},
		"Spoiled":   {int(e4), spoiled},
		"Sterile":   {int(e5), oneIf(sterile)},
	}
}

func oneIf(ok bool) int {
	if ok {
		return 1
	}
	return 0
}

func wantError(t *testing.T, what string, results map[string][]int, e api.Errno) {
	t.Helper()
	for name, l := range results {
		if api.Errno(l[0]) != e {
			t.Errorf("%s: %s: error %d, not %d", what, name, l[0], e)
		}
		for _, n := range l[1:] {
			if e != api.OK && n != 0 {
				t.Errorf("%s: %s leaves a result: %v", what, name, l)
			}
		}
	}
}

// 4.2, R2, R3: ErrInvalid, ErrRange, ErrLimit, in this order.
func TestLethalityErrors(t *testing.T) {
	many := slices.Repeat([]int{50000}, api.MaxRun+1)
	manyBad := append(slices.Clone(many), api.MaxTemp+1)
	for _, c := range badCans() {
		wantError(t, "a bad can", byBaths(c, spores(), 20000, nil), api.ErrInvalid)
		wantError(t, "a bad can", byBaths(c, spores(), api.MaxTemp+1, manyBad), api.ErrInvalid)
	}
	for _, k := range badKillers() {
		wantError(t, "a bad killer", byBaths(tall(), k, 20000, nil), api.ErrInvalid)
		wantError(t, "a bad killer", byBaths(tall(), k, api.MaxTemp+1, manyBad), api.ErrInvalid)
	}
	for _, n := range []int{math.MinInt, api.MinTemp - 1, api.MaxTemp + 1, math.MaxInt} {
		wantError(t, "a bad beginning", byBaths(tall(), spores(), n, nil), api.ErrRange)
		wantError(t, "a bad beginning", byBaths(tall(), spores(), n, many), api.ErrRange)
		wantError(t, "a bad bath", byBaths(tall(), spores(), 0, []int{0, n}), api.ErrRange)
		wantError(t, "a bad bath", byBaths(tall(), spores(), 0, append(slices.Clone(many), n)), api.ErrRange)
	}
	wantError(t, "too many", byBaths(stirred(), spores(), 0, many), api.ErrLimit)
	wantError(t, "the most", byBaths(stirred(), spores(), 0, many[1:]), api.OK)
	wantError(t, "the ends", byBaths(tall(), spores(), api.MinTemp, []int{api.MinTemp, api.MaxTemp}), api.OK)
}

func recordOf(baths ...int) []api.Reading {
	var r []api.Reading
	for i, bath := range baths {
		r = append(r, api.Reading{Step: -i, Temp: math.MaxInt, Chart: math.MinInt, Bath: bath})
	}
	return r
}

// 4.4: any record, its baths cut to the range of temperatures.
func TestCredited(t *testing.T) {
	r := recordOf(121000, 131000, 111000, 121000, 131000)
	for every, want := range map[int]int{1: 1000000 + 10000000 + 100000 + 1000000 + 10000000, 2: 1000000 + 3*100000 + 10000000, 3: 4*1000000 + 10000000, 4: 4*1000000 + 10000000, 2000: 4*1000000 + 10000000} {
		if f, e := process.Credited(swift(), spores(), 20000, r, every); f != want || e != api.OK {
			t.Errorf("Credited(%d) = %d, %d", every, f, e)
		}
	}
	for _, c := range cans() {
		for _, baths := range runs() {
			credit, _ := retort.Credit(recordOf(baths...), 7)
			_, want, _ := process.Lethality(c, weak(), 70000, credit)
			if f, e := process.Credited(c, weak(), 70000, recordOf(baths...), 7); f != want || e != api.OK {
				t.Errorf("Credited(%v, %v) = %d, %d, not %d", c, baths, f, e, want)
			}
		}
		wild := recordOf(math.MaxInt, api.MaxTemp+1, api.MaxTemp, api.MinTemp, api.MinTemp-1, math.MinInt, 90000)
		_, want, _ := process.Lethality(c, weak(), 0, []int{api.MaxTemp, api.MaxTemp, api.MaxTemp, api.MinTemp, api.MinTemp, api.MinTemp, 90000})
		if f, e := process.Credited(c, weak(), 0, wild, 1); f != want || e != api.OK {
			t.Errorf("Credited of wild baths = %d, %d, not %d", f, e, want)
		}
	}
	if f, e := process.Credited(tall(), spores(), 121000, nil, 1); f != 0 || e != api.OK {
		t.Errorf("Credited of nothing = %d, %d", f, e)
	}
}

// 4.4: ErrInvalid, ErrRange (initial), ErrLimit, ErrRange (every).
func TestCreditedErrors(t *testing.T) {
	r := recordOf(numbers(2001, 1, 0, 100000)...)
	for _, c := range []struct {
		can     api.Can
		k       api.Killer
		initial int
		r       []api.Reading
		every   int
		e       api.Errno
	}{
		{api.Can{}, spores(), api.MaxTemp + 1, r, 0, api.ErrInvalid},
		{stirred(), api.Killer{}, api.MaxTemp + 1, r, 0, api.ErrInvalid},
		{stirred(), spores(), api.MaxTemp + 1, r, 0, api.ErrRange},
		{stirred(), spores(), api.MinTemp - 1, r, 1, api.ErrRange},
		{stirred(), spores(), 0, r, 0, api.ErrLimit},
		{stirred(), spores(), 0, r, 1, api.ErrLimit},
		{stirred(), spores(), 0, r[1:], 0, api.ErrRange},
		{stirred(), spores(), 0, r[1:], 2001, api.ErrRange},
		{stirred(), spores(), 0, nil, -1, api.ErrRange},
		{stirred(), spores(), 0, r[1:], math.MinInt, api.ErrRange},
		{stirred(), spores(), 0, r[1:], 2000, api.OK},
	} {
		if f, e := process.Credited(c.can, c.k, c.initial, c.r, c.every); e != c.e || e != api.OK && f != 0 {
			t.Errorf("Credited of %d readings every %d = %d, %d, not %d", len(c.r), c.every, f, e, c.e)
		}
	}
}
