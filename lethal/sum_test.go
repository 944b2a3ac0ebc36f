package lethal_test

import (
	"math"
	"slices"
	"testing"

	"cannery/api"
	"cannery/lethal"
)

// temperatures makes n of them that go up and down through the whole range.
func temperatures(n, seed int) []int {
	l := make([]int, n)
	for i := range l {
		seed = (seed*1103515245 + 12345) % 2147483648
		l[i] = api.MinTemp + seed%(api.MaxTemp-api.MinTemp+1)
	}
	return l
}

// 1.3
func TestQuarter(t *testing.T) {
	for _, c := range [][2]int{{0, 0}, {1, 0}, {249, 0}, {250, 1}, {121000, 484}, {121249, 484}, {121250, 485}, {-1, -1}, {-249, -1}, {-250, -1}, {-251, -2}, {-50000, -200}, {200000, 800}, {math.MaxInt, 36893488147419103}, {math.MinInt, -36893488147419104}} {
		if q := lethal.Quarter(c[0]); q != c[1] {
			t.Errorf("Quarter(%d) = %d", c[0], q)
		}
	}
	for at := api.MinTemp; at <= api.MaxTemp; at++ {
		if q := lethal.Quarter(at); q*250 > at || (q+1)*250 <= at {
			t.Fatalf("Quarter(%d) = %d", at, q)
		}
	}
}

// sumOf adds up the rates one by one.
func sumOf(k api.Killer, temps []int, up bool) int {
	sum := 0
	for _, at := range temps {
		q := lethal.Quarter(at)
		rate, _ := lethal.Rate(k, q)
		if up {
			if at%250 != 0 {
				q++
			}
			rate, _ = lethal.RateUp(k, q)
		}
		sum = min(sum+rate, mostSum)
	}
	return sum
}

// 1.3
func TestSums(t *testing.T) {
	temps := []int{121000, 121100, 111000, 20000}
	if f, e := lethal.Sum(spores(), temps); f != 2100000 || e != api.OK {
		t.Errorf("Sum = %d, %d", f, e)
	}
	if f, e := lethal.SumUp(spores(), temps); f != 2159255 || e != api.OK {
		t.Errorf("SumUp = %d, %d", f, e)
	}
	// below 0 the quarter above is that towards 0
	cold := api.Killer{Name: "cold", Ref: -40, Z: 40, D: 1, Goal: 1}
	if f, e := lethal.SumUp(cold, []int{-10001, -10000}); f != 2000000 || e != api.OK {
		t.Errorf("SumUp below 0 = %d, %d", f, e)
	}
	if f, e := lethal.Sum(cold, []int{-10001, -10000}); f != 1944060 || e != api.OK {
		t.Errorf("Sum below 0 = %d, %d", f, e)
	}
	for _, k := range killers() {
		for _, l := range [][]int{nil, {}, {api.MinTemp}, {api.MaxTemp}, temperatures(200, 7), temperatures(30, 11)} {
			if f, e := lethal.Sum(k, l); f != sumOf(k, l, false) || e != api.OK {
				t.Errorf("%v: Sum = %d, %d", k, f, e)
			}
			if f, e := lethal.SumUp(k, l); f != sumOf(k, l, true) || e != api.OK {
				t.Errorf("%v: SumUp = %d, %d", k, f, e)
			}
		}
	}
}

// 1.3
func TestRunning(t *testing.T) {
	l, e := lethal.Running(spores(), []int{121000, 121100, 111000, 20000})
	if e != api.OK || !slices.Equal(l, []int{1000000, 2000000, 2100000, 2100000}) {
		t.Errorf("Running = %v, %d", l, e)
	}
	if l, e := lethal.Running(spores(), nil); e != api.OK || len(l) != 0 {
		t.Errorf("Running of nothing = %v, %d", l, e)
	}
	for _, k := range killers() {
		temps := temperatures(100, 3)
		l, e := lethal.Running(k, temps)
		if e != api.OK || len(l) != len(temps) {
			t.Fatalf("Running: %d sums, %d", len(l), e)
		}
		for i, f := range l {
			if sum, _ := lethal.Sum(k, temps[:i+1]); f != sum {
				t.Errorf("%v: the running sum %d is %d", k, i, f)
			}
		}
	}
}

// The details: sums are cut, and running sums stay there.
func TestSumsAreCut(t *testing.T) {
	hot := api.Killer{Name: "hot", Ref: 0, Z: 1, D: 1, Goal: 1}
	temps := slices.Repeat([]int{100000}, 10000)
	for _, n := range []int{99, 100, 101, 10000} {
		most := min(n*mostRate, mostSum)
		if f, e := lethal.Sum(hot, temps[:n]); f != most || e != api.OK {
			t.Errorf("Sum of %d = %d, %d", n, f, e)
		}
		if f, e := lethal.SumUp(hot, temps[:n]); f != most || e != api.OK {
			t.Errorf("SumUp of %d = %d, %d", n, f, e)
		}
		l, e := lethal.Running(hot, temps[:n])
		if e != api.OK || len(l) != n || l[n-1] != most || l[98] != 99*mostRate {
			t.Errorf("Running of %d: %d sums, %d", n, len(l), e)
		}
	}
	if n, e := lethal.When(hot, temps, mostSum); n != 100 || e != api.OK {
		t.Errorf("When = %d, %d", n, e)
	}
}

// 1.3, 1.5, R2: ErrLimit of the list comes before ErrRange of its entries.
func TestListErrors(t *testing.T) {
	k := spores()
	for _, c := range []struct {
		temps []int
		e     api.Errno
	}{
		{slices.Repeat([]int{20000}, 10000), api.OK},
		{slices.Repeat([]int{20000}, 10001), api.ErrLimit},
		{slices.Repeat([]int{api.MaxTemp + 1}, 10001), api.ErrLimit},
		{[]int{api.MaxTemp, api.MinTemp}, api.OK},
		{[]int{api.MaxTemp + 1}, api.ErrRange},
		{[]int{api.MinTemp - 1}, api.ErrRange},
		{[]int{0, 0, math.MaxInt}, api.ErrRange},
		{[]int{math.MinInt, 0, 0}, api.ErrRange},
	} {
		f, e := lethal.Sum(k, c.temps)
		if e != c.e || e != api.OK && f != 0 {
			t.Errorf("Sum = %d, %d", f, e)
		}
		f, e = lethal.SumUp(k, c.temps)
		if e != c.e || e != api.OK && f != 0 {
			t.Errorf("SumUp = %d, %d", f, e)
		}
		l, e := lethal.Running(k, c.temps)
		if e != c.e || e != api.OK && len(l) != 0 {
			t.Errorf("Running: %d sums, %d", len(l), e)
		}
		// nothing is reached at once, but errors of the list come first
		n, e := lethal.When(k, c.temps, 0)
		if e != c.e || n != 0 {
			t.Errorf("When = %d, %d", n, e)
		}
	}
}

// 1.5
func TestWhen(t *testing.T) {
	k := spores()
	temps := []int{20000, 121000, 20000, 121100, 111000, 20000}
	for _, c := range [][2]int{{0, 0}, {1, 2}, {1000000, 2}, {1000001, 4}, {2000000, 4}, {2000001, 5}, {2100000, 5}} {
		if n, e := lethal.When(k, temps, c[0]); n != c[1] || e != api.OK {
			t.Errorf("When(%d) = %d, %d", c[0], n, e)
		}
	}
	for _, c := range []struct {
		temps []int
		f     int
		e     api.Errno
	}{
		{temps, 2100001, api.ErrNone},
		{temps, mostSum, api.ErrNone},
		{nil, 1, api.ErrNone},
		{nil, -1, api.ErrRange},
		{temps, -1, api.ErrRange},
		{temps, mostSum + 1, api.ErrRange},
		{temps, math.MinInt, api.ErrRange},
		{slices.Repeat([]int{0}, 10001), -1, api.ErrLimit},
	} {
		if n, e := lethal.When(k, c.temps, c.f); n != 0 || e != c.e {
			t.Errorf("When(%d) = %d, %d", c.f, n, e)
		}
	}
	if n, e := lethal.When(k, nil, 0); n != 0 || e != api.OK {
		t.Errorf("When of nothing = %d, %d", n, e)
	}
}

// P1.6
func TestSumsAddUp(t *testing.T) {
	for _, k := range killers() {
		for seed := range 20 {
			a, b := temperatures(5*seed, seed), temperatures(100-3*seed, seed+100)
			f, _ := lethal.Sum(k, a)
			g, _ := lethal.Sum(k, b)
			both := slices.Concat(a, b)
			if sum, e := lethal.Sum(k, both); sum != min(f+g, mostSum) || e != api.OK {
				t.Errorf("%v: %d and %d, together %d, %d", k, f, g, sum, e)
			}
			sum, _ := lethal.Sum(k, both)
			if l, e := lethal.Running(k, both); e != api.OK || l[len(l)-1] != sum {
				t.Errorf("%v: Running does not end with Sum: %d", k, e)
			}
		}
	}
}

// P1.1, R4: lists are read only, also beyond their length, and results share no memory with them.
func TestListsAreKept(t *testing.T) {
	k := spores()
	whole := []int{121000, 111000, 20000, 77, 88}
	temps := whole[:3]
	before := slices.Clone(whole)
	l, _ := lethal.Running(k, temps)
	lethal.Sum(k, temps)
	lethal.SumUp(k, temps)
	lethal.When(k, temps, 1000001)
	if !slices.Equal(whole, before) {
		t.Errorf("the list is now %v", whole)
	}
	m, _ := lethal.Running(k, temps)
	clear(l[:cap(l)])
	if !slices.Equal(whole, before) || !slices.Equal(m, []int{1000000, 1100000, 1100000}) {
		t.Errorf("shared memory: %v, %v", whole, m)
	}
}
