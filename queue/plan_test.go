package queue_test

import (
	"iter"
	"math"
	"slices"
	"testing"

	"cannery/api"
	"cannery/queue"
)

// The numbers that may be one of vessels, the ticks of a cook and the longest wait, and those that may not.
var (
	counts    = []int{1, 2, 12}
	cooks     = []int{1, 100, 100000000}
	longest   = []int{0, 50, 100000000}
	badCounts = []int{math.MinInt, -1, 0, 13, math.MaxInt}
	badCooks  = []int{math.MinInt, -1, 0, 100000001, math.MaxInt}
	badWaits  = []int{math.MinInt, -1, 100000001, math.MaxInt}
)

// wrong lists the triples of such numbers of which at least one is bad.
func wrong() [][3]int {
	var l [][3]int
	for i, m := range slices.Concat(counts, badCounts) {
		for j, p := range slices.Concat(cooks, badCooks) {
			for k, w := range slices.Concat(longest, badWaits) {
				if max(i, j, k) >= 3 {
					l = append(l, [3]int{m, p, w})
				}
			}
		}
	}
	return l
}

// starts makes them of pairs of a vessel and a tick.
func starts(pairs ...[2]int) []api.Start {
	x := make([]api.Start, 0, len(pairs))
	for i, pair := range pairs {
		x = append(x, api.Start{Basket: i, Vessel: pair[0], At: pair[1]})
	}
	return x
}

// plans yields all plans, by the sentence about them: for small baskets. The list it yields is overwritten.
func plans(l []api.Basket, m, p, w int) iter.Seq[[]api.Start] {
	return func(yield func([]api.Start) bool) {
		further(l, m, p, w, nil, yield)
	}
}

func further(l []api.Basket, m, p, w int, x []api.Start, yield func([]api.Start) bool) bool {
	i := len(x)
	if i == len(l) {
		return yield(x)
	}
	for v := range m {
		for at := l[i].Came; at <= l[i].Came+w; at++ {
			if slices.ContainsFunc(x, func(s api.Start) bool { return s.Vessel == v && s.At-at < p && at-s.At < p }) {
				continue
			}
			if !further(l, m, p, w, append(x, api.Start{Basket: i, Vessel: v, At: at}), yield) {
				return false
			}
		}
	}
	return true
}

// possible reports whether there is a plan.
func possible(l []api.Basket, m, p, w int) bool {
	for range plans(l, m, p, w) {
		return true
	}
	return false
}

// proofs lists all proofs, by the sentence about them.
func proofs(l []api.Basket, m, p, w int) []api.Late {
	var list []api.Late
	for first := range l {
		for q := 1; first+q*m < len(l); q++ {
			if last := first + q*m; l[first].Came+q*p > l[last].Came+w {
				list = append(list, api.Late{First: first, Last: last})
			}
		}
	}
	return list
}

// small is a case that can be searched through.
type small struct {
	l       []api.Basket
	m, p, w int
}

// smalls makes cases, about a third of which have no plan.
func smalls(n int) []small {
	list := make([]small, 0, n)
	for seed := range n {
		x := numbers(4, seed+77, 0, 1000)
		list = append(list, small{some(x[0]%6, seed, 1+x[0]%7), 1 + x[1]%5/2, 1 + x[2]%6, x[3] % 4})
	}
	return list
}

// 7.1
func TestValidPlan(t *testing.T) {
	l := came(0, 0, 30, 100)
	plan := starts([2]int{0, 0}, [2]int{1, 50}, [2]int{2, 30}, [2]int{0, 100})
	valid := func(change func(x []api.Start)) bool {
		x := slices.Clone(plan)
		change(x)
		return queue.ValidPlan(l, 3, 100, 50, x)
	}
	for _, change := range []func(x []api.Start){
		func(x []api.Start) {},
		func(x []api.Start) { x[3].At = 150 },
		func(x []api.Start) { x[3].Vessel, x[3].At = 2, 130 },
		func(x []api.Start) { x[3].Vessel, x[3].At = 1, 150 },
		func(x []api.Start) { x[2].At = 80 },
	} {
		if !valid(change) {
			t.Error("a plan is not valid")
		}
	}
	for i, change := range []func(x []api.Start){
		func(x []api.Start) { x[0].At = -1 },
		func(x []api.Start) { x[0].At = math.MinInt },
		func(x []api.Start) { x[2].At = 29 },
		func(x []api.Start) { x[2].At = 81 },
		func(x []api.Start) { x[3].At = 99 },
		func(x []api.Start) { x[3].At = 151 },
		func(x []api.Start) { x[3].At = math.MaxInt },
		func(x []api.Start) { x[0].At = 1 },
		func(x []api.Start) { x[1].Vessel = 0 },
		func(x []api.Start) { x[2].Vessel = 0 },
		func(x []api.Start) { x[3].Vessel, x[3].At = 2, 129 },
		func(x []api.Start) { x[3].Vessel, x[3].At = 1, 149 },
		func(x []api.Start) { x[2].Vessel = 3 },
		func(x []api.Start) { x[2].Vessel = 12 },
		func(x []api.Start) { x[2].Vessel = -1 },
		func(x []api.Start) { x[2].Vessel = math.MaxInt },
		func(x []api.Start) { x[2].Vessel = math.MinInt },
		func(x []api.Start) { x[2].Basket = 3 },
		func(x []api.Start) { x[0].Basket = 1 },
		func(x []api.Start) { x[0], x[1] = x[1], x[0] },
		func(x []api.Start) { x[0].Basket, x[1].Basket = 1, 0 },
		func(x []api.Start) { x[3].Basket = -1 },
	} {
		if valid(change) {
			t.Errorf("the plan with change %d is valid", i)
		}
	}
	for _, x := range [][]api.Start{nil, plan[:3], append(slices.Clone(plan), plan[3]), append(slices.Clone(plan), api.Start{Basket: 4, Vessel: 1, At: 150})} {
		if queue.ValidPlan(l, 3, 100, 50, x) {
			t.Errorf("%v is valid", x)
		}
	}
	for _, bad := range badLists() {
		if queue.ValidPlan(bad, 3, 100, 50, slices.Repeat(starts([2]int{0, 3}), len(bad))) || queue.ValidPlan(bad, 12, 1, 100000000, plan) {
			t.Errorf("a plan of %v is valid", bad)
		}
	}
}

// 7.1: no plan is valid with a number out of its range, also that of no baskets.
func TestValidPlanRanges(t *testing.T) {
	for _, m := range counts {
		for _, p := range cooks {
			for _, w := range longest {
				if !queue.ValidPlan(nil, m, p, w, nil) || !queue.ValidPlan(came(7), m, p, w, starts([2]int{0, 7})) {
					t.Errorf("no plan with %d, %d, %d", m, p, w)
				}
			}
		}
	}
	for _, bad := range wrong() {
		m, p, w := bad[0], bad[1], bad[2]
		if queue.ValidPlan(nil, m, p, w, nil) || queue.ValidPlan(came(7), m, p, w, starts([2]int{0, 7})) {
			t.Errorf("a plan with %d, %d, %d", m, p, w)
		}
	}
}

// 7.1
func TestFirst(t *testing.T) {
	for _, c := range []struct {
		l    []api.Basket
		m, p int
		want []api.Start
	}{
		{nil, 1, 1, nil},
		{came(7), 1, 100, starts([2]int{0, 7})},
		{came(0, 0, 0), 2, 100, starts([2]int{0, 0}, [2]int{1, 0}, [2]int{0, 100})},
		{came(0, 0, 0), 1, 100, starts([2]int{0, 0}, [2]int{0, 100}, [2]int{0, 200})},
		{came(0, 0, 0), 3, 100, starts([2]int{0, 0}, [2]int{1, 0}, [2]int{2, 0})},
		// just free, and one tick before
		{came(0, 100, 199), 1, 100, starts([2]int{0, 0}, [2]int{0, 100}, [2]int{0, 200})},
		// the vessel that is free first, also where one with a lesser number is free, too
		{came(0, 500, 1000, 1500, 2000), 3, 100, starts([2]int{0, 0}, [2]int{1, 500}, [2]int{2, 1000}, [2]int{0, 1500}, [2]int{1, 2000})},
		// of several the least number: all are free from 0, then 1 and 0 from 110
		{came(10, 10, 300, 300, 300), 2, 100, starts([2]int{0, 10}, [2]int{1, 10}, [2]int{0, 300}, [2]int{1, 300}, [2]int{0, 400})},
		{came(0, 20, 30, 130), 2, 100, starts([2]int{0, 0}, [2]int{1, 20}, [2]int{0, 100}, [2]int{1, 130})},
		{came(0, 0, 0, 0, 0, 0, 0, 0, 0, 0, 0, 0, 0), 12, 1, starts([2]int{0, 0}, [2]int{1, 0}, [2]int{2, 0}, [2]int{3, 0}, [2]int{4, 0}, [2]int{5, 0}, [2]int{6, 0}, [2]int{7, 0}, [2]int{8, 0}, [2]int{9, 0}, [2]int{10, 0}, [2]int{11, 0}, [2]int{0, 1})},
	} {
		if x, e := queue.First(c.l, c.m, c.p); !slices.Equal(x, c.want) || e != api.OK {
			t.Errorf("First(%v, %d, %d) = %v, %d", c.l, c.m, c.p, x, e)
		}
	}
}

// firstServed follows the sentence about first come first served.
func firstServed(l []api.Basket, m, p int) []api.Start {
	free := make([]int, m)
	var x []api.Start
	for i, b := range l {
		v := slices.Index(free, slices.Min(free))
		at := max(b.Came, free[v])
		free[v] = at + p
		x = append(x, api.Start{Basket: i, Vessel: v, At: at})
	}
	return x
}

// 7.1, also where starts are late.
func TestFirstByItsSentence(t *testing.T) {
	for seed := range 600 {
		n, most := numbers(1, seed, 0, 60)[0], []int{5, 100, 3000}[seed%3]
		l, m, p := some(n, seed, most), 1+seed%12, 1+seed%97
		if x, e := queue.First(l, m, p); !slices.Equal(x, firstServed(l, m, p)) || e != api.OK {
			t.Errorf("First(%v, %d, %d) = %v, %d", l, m, p, x, e)
		}
	}
	for _, m := range []int{1, 7, 12} {
		l := came(slices.Repeat([]int{100000000}, 500)...)
		x, e := queue.First(l, m, 100000000)
		if !slices.Equal(x, firstServed(l, m, 100000000)) || e != api.OK {
			t.Errorf("First of 500, %d = %v, %d", m, x, e)
		}
		if m == 1 && x[499].At != 50000000000 {
			t.Errorf("the last of 500 long cooks starts at %d", x[499].At)
		}
	}
}

// 7.1, R2, R3
func TestFirstErrors(t *testing.T) {
	for _, bad := range wrong() {
		m, p, w := bad[0], bad[1], bad[2]
		for _, l := range [][]api.Basket{{{}}, {basket(8, 1), basket(7, 1)}} {
			if x, e := queue.First(l, m, p); len(x) != 0 || e != api.ErrInvalid {
				t.Errorf("First(%v, %d, %d) = %v, %d", l, m, p, x, e)
			}
		}
		if w != 50 {
			continue
		}
		for _, l := range [][]api.Basket{nil, came(1, 2, 3)} {
			if x, e := queue.First(l, m, p); len(x) != 0 || e != api.ErrRange {
				t.Errorf("First(%v, %d, %d) = %v, %d", l, m, p, x, e)
			}
		}
	}
	for _, l := range badLists() {
		if x, e := queue.First(l, 2, 100); len(x) != 0 || e != api.ErrInvalid {
			t.Errorf("First(%v) = %v, %d", l, x, e)
		}
	}
}

// 7.1: the chapter's example, and the ticks about it.
func TestPlan(t *testing.T) {
	l := came(0, 0, 0)
	for w, want := range map[int]api.Errno{0: api.ErrNone, 50: api.ErrNone, 99: api.ErrNone, 100: api.OK, 101: api.OK, 100000000: api.OK} {
		x, late, e := queue.Plan(l, 2, 100, w)
		if want == api.OK && (!slices.Equal(x, starts([2]int{0, 0}, [2]int{1, 0}, [2]int{0, 100})) || late != (api.Late{}) || e != api.OK) {
			t.Errorf("Plan with %d = %v, %v, %d", w, x, late, e)
		}
		if want == api.ErrNone && (len(x) != 0 || late != (api.Late{First: 0, Last: 2}) || e != api.ErrNone) {
			t.Errorf("Plan with %d = %v, %v, %d", w, x, late, e)
		}
	}
	for _, m := range counts {
		if x, late, e := queue.Plan(nil, m, 1, 0); len(x) != 0 || late != (api.Late{}) || e != api.OK {
			t.Errorf("Plan of no baskets = %v, %v, %d", x, late, e)
		}
	}
	// 13 at once, and later one too many for a vessel
	l = came(0, 0, 0, 0, 0, 0, 0, 0, 0, 0, 0, 0, 0)
	if x, late, e := queue.Plan(l, 12, 1, 0); len(x) != 0 || late != (api.Late{First: 0, Last: 12}) || e != api.ErrNone {
		t.Errorf("Plan of 13 = %v, %v, %d", x, late, e)
	}
	if x, late, e := queue.Plan(came(0, 100, 200, 299), 1, 100, 0); len(x) != 0 || !queue.Proved(came(0, 100, 200, 299), 1, 100, 0, late) || late.Last != 3 || e != api.ErrNone {
		t.Errorf("Plan = %v, %v, %d", x, late, e)
	}
}

// 7.1, P7.2, P8: the plan is first come first served where there is a plan at all, and a proof where there is none.
func TestTwoOutcomes(t *testing.T) {
	with, without := 0, 0
	for _, c := range smalls(4000) {
		is := possible(c.l, c.m, c.p, c.w)
		all := proofs(c.l, c.m, c.p, c.w)
		x, late, e := queue.Plan(c.l, c.m, c.p, c.w)
		if is {
			with++
			if len(all) != 0 || !slices.Equal(x, firstServed(c.l, c.m, c.p)) || !queue.ValidPlan(c.l, c.m, c.p, c.w, x) || late != (api.Late{}) || e != api.OK {
				t.Errorf("Plan of %v = %v, %v, %d", c, x, late, e)
			}
			continue
		}
		without++
		if len(x) != 0 || !slices.Contains(all, late) || !queue.Proved(c.l, c.m, c.p, c.w, late) || e != api.ErrNone {
			t.Errorf("Plan of %v = %v, %v, %d", c, x, late, e)
		}
	}
	if with < 1200 || without < 1200 {
		t.Errorf("%d with a plan, %d without", with, without)
	}
}

// P7.2, P8: of many baskets.
func TestTwoOutcomesOfMany(t *testing.T) {
	with, without := 0, 0
	for seed := range 2000 {
		n := []int{20, 100, 500}[seed%3]
		m := 1 + seed%12
		p := 1 + seed%50
		l, w := some(n, seed, n*p/m+seed%1000), numbers(1, seed, 0, 40)[0]*seed/600
		x, late, e := queue.Plan(l, m, p, w)
		plan, proof := queue.ValidPlan(l, m, p, w, x), queue.Proved(l, m, p, w, late)
		if plan == proof || plan != (e == api.OK) || proof != (e == api.ErrNone) || proof && len(x) != 0 || plan && late != (api.Late{}) {
			t.Errorf("Plan of %d, %d, %d, %d = %v, %v, %d", n, m, p, w, x, late, e)
		}
		if plan != (len(proofs(l, m, p, w)) == 0) {
			t.Errorf("%d, %d, %d, %d have %v", n, m, p, w, proofs(l, m, p, w))
		}
		if plan {
			with++
		} else {
			without++
		}
	}
	if with < 300 || without < 300 {
		t.Errorf("%d with a plan, %d without", with, without)
	}
}

// 7.1, R2, R3: also with the errors, there is neither a plan nor a proof.
func TestPlanErrors(t *testing.T) {
	crowd := came(make([]int, 20)...)
	for _, bad := range wrong() {
		m, p, w := bad[0], bad[1], bad[2]
		for _, l := range [][]api.Basket{nil, came(1, 2, 3), crowd} {
			if x, late, e := queue.Plan(l, m, p, w); len(x) != 0 || late != (api.Late{}) || e != api.ErrRange {
				t.Errorf("Plan(%v, %d, %d, %d) = %v, %v, %d", l, m, p, w, x, late, e)
			}
		}
		if x, late, e := queue.Plan([]api.Basket{{}}, m, p, w); len(x) != 0 || late != (api.Late{}) || e != api.ErrInvalid {
			t.Errorf("Plan of no basket, %d, %d, %d = %v, %v, %d", m, p, w, x, late, e)
		}
	}
	for _, l := range badLists() {
		if x, late, e := queue.Plan(l, 1, 100, 0); len(x) != 0 || late != (api.Late{}) || e != api.ErrInvalid {
			t.Errorf("Plan(%v) = %v, %v, %d", l, x, late, e)
		}
	}
}

// 7.1
func TestProved(t *testing.T) {
	crowd, spread := came(0, 0, 0, 0, 0, 0, 0), came(0, 10, 20, 30, 40)
	for _, c := range []struct {
		l           []api.Basket
		m, p, w     int
		first, last int
		want        bool
	}{
		{crowd[:3], 2, 100, 50, 0, 2, true},
		{crowd[:3], 2, 100, 99, 0, 2, true},
		{crowd[:3], 2, 100, 100, 0, 2, false},
		{crowd[:3], 2, 100, 50, 0, 1, false},
		{crowd[:3], 2, 100, 50, 1, 2, false},
		{crowd[:3], 2, 100, 50, 0, 0, false},
		{crowd[:3], 2, 100, 50, 2, 0, false},
		{crowd[:3], 2, 100, 50, 0, 4, false},
		{crowd[:3], 2, 100, 50, 1, 3, false},
		{crowd[:3], 2, 100, 50, -2, 0, false},
		{crowd[:3], 2, 100, 50, -1, 1, false},
		{crowd, 3, 100, 150, 0, 6, true},
		{crowd, 3, 100, 150, 0, 3, false},
		{crowd, 3, 100, 99, 3, 6, true},
		{crowd, 3, 100, 99, 3, 5, false},
		{crowd, 1, 100, 100, 0, 2, true},
		{spread, 1, 30, 40, 0, 2, false},
		{spread, 1, 30, 40, 0, 3, true},
		{spread, 1, 30, 39, 0, 2, true},
		{spread, 1, 30, 39, 1, 3, true},
		{spread, 1, 30, 39, 1, 2, false},
		{nil, 1, 1, 0, 0, 0, false},
		{came(5), 1, 1, 0, 0, 0, false},
		{crowd, 2, 100, 50, math.MinInt, 0, false},
		{crowd, 2, 100, 50, math.MinInt, math.MaxInt, false},
		{crowd, 2, 100, 50, 0, math.MaxInt, false},
		{crowd, 2, 100, 50, 0, math.MaxInt - 1, false},
		{crowd, 2, 100, 50, math.MaxInt, 0, false},
		{crowd, 2, 100, 50, math.MinInt, math.MinInt, false},
	} {
		if is := queue.Proved(c.l, c.m, c.p, c.w, api.Late{First: c.first, Last: c.last}); is != c.want {
			t.Errorf("Proved of %v = %t", c, is)
		}
	}
	for _, l := range badLists() {
		if queue.Proved(l, 1, 100000000, 0, api.Late{First: 0, Last: 1}) {
			t.Errorf("%v has a proof", l)
		}
	}
	for _, bad := range wrong() {
		m, p, w := bad[0], bad[1], bad[2]
		for last := range crowd {
			if queue.Proved(crowd, m, p, w, api.Late{First: 0, Last: last}) {
				t.Errorf("a proof with %d, %d, %d", m, p, w)
			}
		}
	}
}

// 7.1: Proved is true of just the proofs.
func TestProvedByItsSentence(t *testing.T) {
	for _, c := range smalls(1500) {
		all := proofs(c.l, c.m, c.p, c.w)
		for first := -1; first <= len(c.l); first++ {
			for last := -1; last <= len(c.l); last++ {
				late := api.Late{First: first, Last: last}
				if is := queue.Proved(c.l, c.m, c.p, c.w, late); is != slices.Contains(all, late) {
					t.Errorf("Proved of %v, %v = %t", c, late, is)
				}
			}
		}
	}
}

// 7.2
func TestVessels(t *testing.T) {
	crowd := came(make([]int, 13)...)
	for _, c := range []struct {
		l    []api.Basket
		p, w int
		m    int
		late api.Late
		e    api.Errno
	}{
		{nil, 100, 0, 1, api.Late{}, api.OK},
		{came(7), 100000000, 0, 1, api.Late{}, api.OK},
		{came(0, 100), 100, 0, 1, api.Late{}, api.OK},
		{came(0, 0, 0), 100, 200, 1, api.Late{}, api.OK},
		{came(0, 99), 100, 0, 2, api.Late{First: 0, Last: 1}, api.OK},
		{came(0, 0, 0), 100, 50, 3, api.Late{First: 0, Last: 2}, api.OK},
		{crowd[:12], 100, 0, 12, api.Late{First: 0, Last: 11}, api.OK},
		{crowd, 100, 99, 0, api.Late{First: 0, Last: 12}, api.ErrNone},
	} {
		if m, late, e := queue.Vessels(c.l, c.p, c.w); m != c.m || late != c.late || e != c.e {
			t.Errorf("Vessels(%v, %d, %d) = %d, %v, %d", c.l, c.p, c.w, m, late, e)
		}
	}
}

// 7.2, P7.4: the number of vessels has a plan, and one less has none.
func TestVesselsIsLeast(t *testing.T) {
	seen := make(map[int]int)
	for seed := range 1500 {
		p := 1 + seed%60
		n := 1 + seed%100
		l, w := some(n, seed, n*p/(1+seed%14)), seed%50
		m, late, e := queue.Vessels(l, p, w)
		has := func(m int) bool { return len(proofs(l, m, p, w)) == 0 }
		seen[m]++
		switch {
		case e == api.ErrNone:
			if m != 0 || has(12) || !queue.Proved(l, 12, p, w, late) {
				t.Errorf("Vessels of %d, %d, %d = %d, %v, %d", n, p, w, m, late, e)
			}
		case e != api.OK || m < 1 || m > 12 || !has(m):
			t.Errorf("Vessels of %d, %d, %d = %d, %v, %d", n, p, w, m, late, e)
		case m == 1 && late != (api.Late{}) || m > 1 && (has(m-1) || !queue.Proved(l, m-1, p, w, late)):
			t.Errorf("Vessels of %d, %d, %d = %d, %v, %d", n, p, w, m, late, e)
		}
	}
	for m := range 13 {
		if seen[m] < 5 {
			t.Errorf("Vessels is %d only %d times", m, seen[m])
		}
	}
}

// 7.2, R2, R3
func TestVesselsErrors(t *testing.T) {
	for _, bad := range wrong() {
		m, p, w := bad[0], bad[1], bad[2]
		if m == 2 {
			for _, l := range [][]api.Basket{nil, came(1, 2, 3), came(make([]int, 20)...)} {
				if m, late, e := queue.Vessels(l, p, w); m != 0 || late != (api.Late{}) || e != api.ErrRange {
					t.Errorf("Vessels(%v, %d, %d) = %d, %v, %d", l, p, w, m, late, e)
				}
			}
		}
		if m, late, e := queue.Vessels([]api.Basket{{}}, p, w); m != 0 || late != (api.Late{}) || e != api.ErrInvalid {
			t.Errorf("Vessels of no basket, %d, %d = %d, %v, %d", p, w, m, late, e)
		}
	}
	for _, l := range badLists() {
		if m, late, e := queue.Vessels(l, 100, 0); m != 0 || late != (api.Late{}) || e != api.ErrInvalid {
			t.Errorf("Vessels(%v) = %d, %v, %d", l, m, late, e)
		}
	}
}

// 7.2
func TestLongest(t *testing.T) {
	for _, c := range []struct {
		l    []api.Basket
		m, w int
		p    int
		e    api.Errno
	}{
		{nil, 1, 0, 100000000, api.OK},
		{came(7), 1, 0, 100000000, api.OK},
		{came(0, 0), 2, 0, 100000000, api.OK},
		{came(0, 0), 1, 0, 0, api.ErrNone},
		{came(0, 0), 1, 1, 1, api.OK},
		{came(0, 0), 1, 100000000, 100000000, api.OK},
		{came(0, 1), 1, 0, 1, api.OK},
		{came(0, 100000000), 1, 0, 100000000, api.OK},
		{came(0, 99999999), 1, 0, 99999999, api.OK},
		{came(0, 0, 0), 1, 99999999, 49999999, api.OK},
		{came(0, 0, 0), 2, 50, 50, api.OK},
		{came(0, 30, 40), 1, 0, 10, api.OK},
		{came(0, 30, 40), 1, 15, 25, api.OK},
		{came(0, 30, 40), 1, 30, 35, api.OK},
		{came(0, 30, 40), 2, 30, 70, api.OK},
		{came(make([]int, 13)...), 12, 0, 0, api.ErrNone},
	} {
		if p, e := queue.Longest(c.l, c.m, c.w); p != c.p || e != c.e {
			t.Errorf("Longest(%v, %d, %d) = %d, %d", c.l, c.m, c.w, p, e)
		}
	}
}

// 7.2: there is a plan with it, and none with a tick more.
func TestLongestIsGreatest(t *testing.T) {
	none := 0
	for seed := range 800 {
		most := []int{10, 1000, 100000000}[seed%3]
		l, m := some(1+seed%70, seed, most), 1+seed%12
		w := numbers(1, seed, 0, most/5)[0]
		p, e := queue.Longest(l, m, w)
		has := func(p int) bool { return len(proofs(l, m, p, w)) == 0 }
		switch {
		case e == api.ErrNone:
			none++
			if p != 0 || has(1) {
				t.Errorf("Longest of %v, %d, %d = %d, %d", l, m, w, p, e)
			}
		case e != api.OK || p < 1 || p > 100000000 || !has(p) || p < 100000000 && has(p+1):
			t.Errorf("Longest of %v, %d, %d = %d, %d", l, m, w, p, e)
		}
	}
	if none < 10 {
		t.Errorf("%d have none", none)
	}
}

// 7.2, R2, R3
func TestLongestErrors(t *testing.T) {
	for _, bad := range wrong() {
		m, p, w := bad[0], bad[1], bad[2]
		if p == 100 {
			for _, l := range [][]api.Basket{nil, came(1, 2, 3), came(make([]int, 20)...)} {
				if p, e := queue.Longest(l, m, w); p != 0 || e != api.ErrRange {
					t.Errorf("Longest(%v, %d, %d) = %d, %d", l, m, w, p, e)
				}
			}
		}
		if p, e := queue.Longest([]api.Basket{{}}, m, w); p != 0 || e != api.ErrInvalid {
			t.Errorf("Longest of no basket, %d, %d = %d, %d", m, w, p, e)
		}
	}
	for _, l := range badLists() {
		if p, e := queue.Longest(l, 1, 0); p != 0 || e != api.ErrInvalid {
			t.Errorf("Longest(%v) = %d, %d", l, p, e)
		}
	}
}
