package lethal_test

import (
	"math"
	"math/big"
	"math/bits"
	"slices"
	"testing"

	"cannery/api"
	"cannery/lethal"
)

const mostRate = 10000000000000000

// power is n to the power z, reckoned apart from the program.
func power(n, z int) *big.Int {
	return new(big.Int).Exp(big.NewInt(int64(n)), big.NewInt(int64(z)), nil)
}

// isRoot reports whether n is the greatest number with n to the power z at most 10 to the power e.
func isRoot(n, e, z int) bool {
	limit := power(10, e)
	return n >= 0 && power(n, z).Cmp(limit) <= 0 && power(n+1, z).Cmp(limit) > 0
}

// 1.1, P1.2, P2
func TestRootIsExact(t *testing.T) {
	for z := 1; z <= 60; z++ {
		step := 1
		if z > 20 && z != 40 && z != 60 {
			step = 7
		}
		for e := 0; e <= 16*z; e += step {
			if n, err := lethal.Root(e, z); err != api.OK || !isRoot(n, e, z) {
				t.Errorf("Root(%d, %d) = %d, %d", e, z, n, err)
			}
		}
		for e := 0; e <= 16; e++ {
			if n, err := lethal.Root(e*z, z); err != api.OK || int64(n) != power(10, e).Int64() {
				t.Errorf("Root(%d, %d) = %d, %d", e*z, z, n, err)
			}
		}
	}
}

// 1.1
func TestRootOutOfRange(t *testing.T) {
	for _, c := range [][2]int{{-1, 1}, {17, 1}, {33, 2}, {961, 60}, {0, 0}, {0, 61}, {0, -1}, {5, math.MinInt}, {5, math.MaxInt}, {math.MinInt, 5}, {math.MaxInt, 5}, {math.MaxInt, math.MaxInt}} {
		if n, e := lethal.Root(c[0], c[1]); n != 0 || e != api.ErrRange {
			t.Errorf("Root(%d, %d) = %d, %d", c[0], c[1], n, e)
		}
	}
}

// 1.2, P1.2, P2: the definition of the rates, at all temperatures.
func TestRatesAreExact(t *testing.T) {
	for _, k := range killers() {
		for at := -1000; at <= 2000; at++ {
			down, e := lethal.Rate(k, at)
			up, f := lethal.RateUp(k, at)
			if e != api.OK || f != api.OK {
				t.Fatalf("%v at %d: %d, %d", k, at, e, f)
			}
			exponent := 6*k.Z + min(at-k.Ref, 10*k.Z)
			if exponent < 0 {
				if down != 0 || up != 1 {
					t.Errorf("%v at %d, in the cold: %d, %d", k, at, down, up)
				}
				continue
			}
			if !isRoot(down, exponent, k.Z) {
				t.Errorf("%v at %d: %d", k, at, down)
			}
			exact := power(down, k.Z).Cmp(power(10, exponent)) == 0
			if exact && up != down || !exact && up != down+1 {
				t.Errorf("%v at %d: down %d, up %d", k, at, down, up)
			}
		}
	}
}

// 1.2, and the chapter's examples and details.
func TestRateExamples(t *testing.T) {
	for _, c := range []struct{ at, down, up int }{
		{484, 1000000, 1000000},
		{444, 100000, 100000},
		{464, 316227, 316228},
		{485, 1059253, 1059254},
		{524, 10000000, 10000000},
		{245, 1, 2},
		{244, 1, 1},
		{243, 0, 1},
		{-1000, 0, 1},
		{883, 9440608762859233, 9440608762859234},
		{884, mostRate, mostRate},
		{885, mostRate, mostRate},
		{2000, mostRate, mostRate},
	} {
		if n, e := lethal.Rate(spores(), c.at); n != c.down || e != api.OK {
			t.Errorf("Rate(%d) = %d, %d", c.at, n, e)
		}
		if n, e := lethal.RateUp(spores(), c.at); n != c.up || e != api.OK {
			t.Errorf("RateUp(%d) = %d, %d", c.at, n, e)
		}
	}
}

// 1.2
func TestRateOutOfRange(t *testing.T) {
	for _, at := range []int{-1001, 2001, math.MinInt, math.MaxInt} {
		if n, e := lethal.Rate(spores(), at); n != 0 || e != api.ErrRange {
			t.Errorf("Rate(%d) = %d, %d", at, n, e)
		}
		if n, e := lethal.RateUp(spores(), at); n != 0 || e != api.ErrRange {
			t.Errorf("RateUp(%d) = %d, %d", at, n, e)
		}
	}
}

// 1.2, R4: a table is the rates, and new memory.
func TestTable(t *testing.T) {
	for _, k := range killers() {
		for _, c := range [][2]int{{-1000, 0}, {1000, 2000}, {100, 1100}, {-1000, -1000}, {2000, 2000}, {484, 485}} {
			l, e := lethal.Table(k, c[0], c[1])
			if e != api.OK || len(l) != c[1]-c[0]+1 {
				t.Fatalf("Table(%v, %v): %d rates, %d", k, c, len(l), e)
			}
			for i, n := range l {
				if rate, _ := lethal.Rate(k, c[0]+i); n != rate {
					t.Errorf("%v: Table has %d at %d, Rate %d", k, n, c[0]+i, rate)
				}
			}
			m := slices.Clone(l)
			clear(l)
			if again, _ := lethal.Table(k, c[0], c[1]); !slices.Equal(again, m) {
				t.Error("a table that was changed comes back")
			}
		}
	}
	for _, c := range [][2]int{{-1001, 0}, {1500, 2001}, {-1001, -1002}, {2001, 2002}, {5, 4}, {0, 1001}, {-1000, 2000}, {math.MinInt, math.MaxInt}, {math.MaxInt, math.MinInt}, {0, math.MaxInt}, {math.MinInt, 0}} {
		if l, e := lethal.Table(spores(), c[0], c[1]); len(l) != 0 || e != api.ErrRange {
			t.Errorf("Table(%v) = %v, %d", c, l, e)
		}
	}
}

// P1.3
func TestDecades(t *testing.T) {
	for _, k := range killers() {
		down, up := allRates(k)
		for at := -1000; at <= 2000; at++ {
			if up[at] != down[at] && up[at] != down[at]+1 {
				t.Errorf("%v at %d: down %d, up %d", k, at, down[at], up[at])
			}
			if at > -1000 && (down[at] < down[at-1] || up[at] < up[at-1]) {
				t.Errorf("%v: the rates fall to those at %d", k, at)
			}
			if at+k.Z > 2000 || at+k.Z-k.Ref > 10*k.Z {
				continue
			}
			if decade := down[at+k.Z]; decade < 10*down[at] || decade > 10*down[at]+9 {
				t.Errorf("%v: %d at %d, %d a decade above", k, down[at], at, decade)
			}
		}
	}
}

// P1.4
func TestMultiplyingRatesAddsTemperatures(t *testing.T) {
	for _, k := range killers() {
		down, up := allRates(k)
		low, high := max(-1000, k.Ref-7*k.Z), min(2000, k.Ref+10*k.Z)
		for t1 := low; t1 <= high; t1 += 3 {
			for t2 := low; t2 <= high; t2++ {
				both := t1 + t2 - k.Ref
				if both < -1000 || both > high {
					continue
				}
				a, b, n := down[t1], down[t2], up[both]
				high1, low1 := bits.Mul64(uint64(a), uint64(b))
				high2, low2 := bits.Mul64(uint64(n), 1000000)
				if high1 > high2 || high1 == high2 && low1 > low2 {
					t.Fatalf("%v: %d at %d, %d at %d, but up %d at %d", k, a, t1, b, t2, n, both)
				}
			}
		}
	}
}

// allRates lists the rates of a killer by their temperatures.
func allRates(k api.Killer) (down, up map[int]int) {
	down, up = map[int]int{}, map[int]int{}
	for at := -1000; at <= 2000; at++ {
		down[at], _ = lethal.Rate(k, at)
		up[at], _ = lethal.RateUp(k, at)
	}
	return down, up
}

// 1.5, P1.5
func TestTicks(t *testing.T) {
	for _, c := range []struct{ at, f, n int }{
		{444, 250001, 3},
		{444, 300000, 3},
		{444, 300001, 4},
		{484, 156000000, 156},
		{484, 1, 1},
		{484, 0, 0},
		{243, 0, 0},
		{-1000, 0, 0},
		{244, mostSum, mostSum},
		{884, mostSum, 100},
		{2000, mostSum - 1, 100},
	} {
		if n, e := lethal.Ticks(spores(), c.at, c.f); n != c.n || e != api.OK {
			t.Errorf("Ticks(%d, %d) = %d, %d", c.at, c.f, n, e)
		}
	}
	for _, k := range killers() {
		for at := -1000; at <= 2000; at += 11 {
			for _, f := range []int{1, 999, 1000000, 156000000, mostRate + 1, mostSum - 1, mostSum} {
				checkTicks(t, k, at, f)
			}
		}
	}
}

func checkTicks(t *testing.T, k api.Killer, at, f int) {
	rate, _ := lethal.Rate(k, at)
	n, e := lethal.Ticks(k, at, f)
	if rate == 0 {
		if n != 0 || e != api.ErrNone {
			t.Errorf("%v: Ticks(%d, %d) = %d, %d", k, at, f, n, e)
		}
		return
	}
	if e != api.OK || n < 1 || n*rate < f || (n-1)*rate >= f {
		t.Errorf("%v: Ticks(%d, %d) = %d, %d", k, at, f, n, e)
	}
}

// 1.5, R2: the range is checked before ErrNone.
func TestTicksErrors(t *testing.T) {
	for _, c := range []struct {
		at, f int
		e     api.Errno
	}{
		{243, 1, api.ErrNone},
		{-1000, mostSum, api.ErrNone},
		{243, -1, api.ErrRange},
		{243, mostSum + 1, api.ErrRange},
		{484, -1, api.ErrRange},
		{484, mostSum + 1, api.ErrRange},
		{484, math.MinInt, api.ErrRange},
		{-1001, 1, api.ErrRange},
		{-1001, 0, api.ErrRange},
		{2001, 0, api.ErrRange},
		{math.MaxInt, 1, api.ErrRange},
	} {
		if n, e := lethal.Ticks(spores(), c.at, c.f); n != 0 || e != c.e {
			t.Errorf("Ticks(%d, %d) = %d, %d", c.at, c.f, n, e)
		}
	}
}

// 1.5, P1.5. For a valid killer ErrNone can't come: the rate of each is cut at 1,400 at the latest.
func TestLeast(t *testing.T) {
	for _, c := range [][2]int{{0, -1000}, {1, 244}, {2, 257}, {316227, 464}, {316228, 465}, {1000000, 484}, {1000001, 485}, {mostRate - 1, 884}, {mostRate, 884}} {
		if n, e := lethal.Least(spores(), c[0]); n != c[1] || e != api.OK {
			t.Errorf("Least(%d) = %d, %d", c[0], n, e)
		}
	}
	for _, k := range killers() {
		for rate := 1; rate <= mostRate; rate = rate*7 + 3 {
			checkLeast(t, k, rate)
		}
		checkLeast(t, k, mostRate)
	}
	for _, rate := range []int{-1, mostRate + 1, math.MinInt, math.MaxInt} {
		if n, e := lethal.Least(spores(), rate); n != 0 || e != api.ErrRange {
			t.Errorf("Least(%d) = %d, %d", rate, n, e)
		}
	}
}

func checkLeast(t *testing.T, k api.Killer, rate int) {
	at, e := lethal.Least(k, rate)
	has, _ := lethal.Rate(k, at)
	before, _ := lethal.Rate(k, at-1)
	if e != api.OK || has < rate || at > -1000 && before >= rate {
		t.Errorf("%v: Least(%d) = %d, %d", k, rate, at, e)
	}
}
