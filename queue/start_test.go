package queue_test

import (
	"math"
	"slices"
	"testing"

	"cannery/api"
	"cannery/queue"
)

const last = 1000000000000 // the last tick at which something may start

// someStarts makes n starts from 0 to most.
func someStarts(n, seed, most int) []api.Start {
	x := make([]api.Start, 0, n)
	ticks := numbers(n, seed, 0, most)
	for i, v := range numbers(n, seed+31, 0, 11) {
		x = append(x, api.Start{Basket: i, Vessel: v, At: ticks[i]})
	}
	return x
}

// badStarts lists what is no list of starts, with baskets or without.
func badStarts() [][]api.Start {
	lists := [][]api.Start{make([]api.Start, 501), make([]api.Start, 1000)}
	for _, n := range []int{math.MinInt, -1, 12, math.MaxInt} {
		lists = append(lists, starts([2]int{n, 5}), starts([2]int{0, 5}, [2]int{n, 5}, [2]int{1, 5}))
	}
	for _, t := range []int{math.MinInt, -1, last + 1, math.MaxInt} {
		lists = append(lists, starts([2]int{1, t}), starts([2]int{0, 5}, [2]int{3, t}, [2]int{1, 5}))
	}
	return lists
}

// unfit lists pairs of baskets and starts of which one is not valid, or that do not fit.
func unfit() []struct {
	l []api.Basket
	x []api.Start
} {
	type pair = struct {
		l []api.Basket
		x []api.Start
	}
	two, x := came(3, 5), starts([2]int{0, 3}, [2]int{1, 5})
	list := []pair{
		{two, nil},
		{nil, x},
		{two, x[:1]},
		{two[:1], x},
		{two, x[1:]},
		{two, append(slices.Clone(x), x[0])},
		{two, []api.Start{x[1], x[0]}},
		{two, []api.Start{x[0], x[0]}},
		{two, []api.Start{{Basket: 1, Vessel: 0, At: 3}, {Basket: 2, Vessel: 1, At: 5}}},
		{two, []api.Start{{Basket: -1, Vessel: 0, At: 3}, {Basket: 1, Vessel: 1, At: 5}}},
		{two, []api.Start{{Basket: 0, Vessel: 0, At: 3}, {Basket: math.MaxInt, Vessel: 1, At: 5}}},
	}
	for _, l := range badLists() {
		y := make([]api.Start, len(l))
		for i := range y {
			y[i].Basket = i
		}
		list = append(list, pair{l, y})
	}
	for _, y := range badStarts() {
		list = append(list, pair{came(make([]int, len(y))...), y})
	}
	return list
}

// 7.2: waits may be below 0.
func TestWaits(t *testing.T) {
	for _, c := range []struct {
		l    []api.Basket
		x    []api.Start
		want []int
	}{
		{nil, nil, nil},
		{came(7), starts([2]int{0, 7}), []int{0}},
		{came(0, 10, 20, 30), starts([2]int{0, 5}, [2]int{0, 5}, [2]int{11, 40}, [2]int{3, 0}), []int{5, -5, 20, -30}},
		{came(0, 100000000), starts([2]int{0, last}, [2]int{0, 0}), []int{last, -100000000}},
	} {
		if l, e := queue.Waits(c.l, c.x); !slices.Equal(l, c.want) || e != api.OK {
			t.Errorf("Waits(%v, %v) = %v, %d", c.l, c.x, l, e)
		}
	}
	l := some(500, 3, 1000)
	x, _ := queue.First(l, 3, 50)
	waits, e := queue.Waits(l, x)
	if len(waits) != 500 || e != api.OK {
		t.Errorf("Waits = %v, %d", waits, e)
	}
	for i, wait := range waits {
		if wait != x[i].At-l[i].Came {
			t.Errorf("the basket %d waits %d", i, wait)
		}
	}
}

// 7.2
func TestWaitsErrors(t *testing.T) {
	for _, c := range unfit() {
		if l, e := queue.Waits(c.l, c.x); len(l) != 0 || e != api.ErrInvalid {
			t.Errorf("Waits(%v, %v) = %v, %d", c.l, c.x, l, e)
		}
	}
}

// 7.3: starts without baskets are taken as they are.
func TestEnd(t *testing.T) {
	for _, c := range []struct {
		x       []api.Start
		p, want int
	}{
		{nil, 100, 0},
		{starts([2]int{0, 0}), 1, 1},
		{starts([2]int{0, 70}, [2]int{11, 300}, [2]int{3, 20}), 100, 400},
		{[]api.Start{{Basket: -7, Vessel: 2, At: last}, {Basket: math.MaxInt, Vessel: 2, At: last}}, 100000000, last + 100000000},
		{make([]api.Start, 500), 100, 100},
	} {
		if n, e := queue.End(c.x, c.p); n != c.want || e != api.OK {
			t.Errorf("End(%v, %d) = %d, %d", c.x, c.p, n, e)
		}
	}
	for seed := range 100 {
		x, want := someStarts(1+seed, seed, 1000), 0
		for _, s := range x {
			want = max(want, s.At+1+seed)
		}
		if n, e := queue.End(x, 1+seed); n != want || e != api.OK {
			t.Errorf("End(%v, %d) = %d, %d", x, 1+seed, n, e)
		}
	}
}

// 7.3, R2, R3
func TestEndErrors(t *testing.T) {
	for _, p := range append(badCooks, 100) {
		for _, x := range badStarts() {
			if n, e := queue.End(x, p); n != 0 || e != api.ErrInvalid {
				t.Errorf("End(%v, %d) = %d, %d", x, p, n, e)
			}
		}
	}
	for _, p := range badCooks {
		for _, x := range [][]api.Start{nil, starts([2]int{0, 5})} {
			if n, e := queue.End(x, p); n != 0 || e != api.ErrRange {
				t.Errorf("End(%v, %d) = %d, %d", x, p, n, e)
			}
		}
	}
}

// badTicks lists what is no tick.
var badTicks = []int{math.MinInt, -1, last + 1, math.MaxInt}

// 7.3
func TestBusy(t *testing.T) {
	x := starts([2]int{7, 10}, [2]int{0, 20}, [2]int{7, 15}, [2]int{11, 20}, [2]int{3, 90})
	for at, want := range map[int][]int{0: nil, 9: nil, 10: {7}, 19: {7}, 20: {0, 7, 11}, 24: {0, 7, 11}, 25: {0, 11}, 29: {0, 11}, 30: nil, 89: nil, 90: {3}, 99: {3}, 100: nil, last: nil} {
		if l, e := queue.Busy(x, 10, at); !slices.Equal(l, want) || e != api.OK {
			t.Errorf("Busy at %d = %v, %d", at, l, e)
		}
	}
	if l, e := queue.Busy(nil, 100000000, 0); len(l) != 0 || e != api.OK {
		t.Errorf("Busy of no starts = %v, %d", l, e)
	}
	if l, e := queue.Busy([]api.Start{{Basket: -3, Vessel: 4, At: last}}, 1, last); !slices.Equal(l, []int{4}) || e != api.OK {
		t.Errorf("Busy at the last tick = %v, %d", l, e)
	}
	if l, e := queue.Busy(make([]api.Start, 500), 1, 0); !slices.Equal(l, []int{0}) || e != api.OK {
		t.Errorf("Busy of 500 = %v, %d", l, e)
	}
}

// busyAt follows the sentence about busy vessels.
func busyAt(x []api.Start, v, p, t int) bool {
	for _, s := range x {
		if s.Vessel == v && s.At <= t && t < s.At+p {
			return true
		}
	}
	return false
}

// 7.3: starts in a vessel may be less than p apart.
func TestBusyByItsSentence(t *testing.T) {
	for seed := range 60 {
		x, p := someStarts(seed, seed, 80), 1+seed%13
		for at := range 100 {
			var want []int
			for v := range 12 {
				if busyAt(x, v, p, at) {
					want = append(want, v)
				}
			}
			if l, e := queue.Busy(x, p, at); !slices.Equal(l, want) || e != api.OK {
				t.Errorf("Busy(%v, %d, %d) = %v, %d", x, p, at, l, e)
			}
		}
	}
}

// 7.3, R2, R3
func TestBusyErrors(t *testing.T) {
	for _, p := range append(badCooks, 100) {
		for _, at := range append(badTicks, 5) {
			for _, x := range badStarts() {
				if l, e := queue.Busy(x, p, at); len(l) != 0 || e != api.ErrInvalid {
					t.Errorf("Busy(%v, %d, %d) = %v, %d", x, p, at, l, e)
				}
			}
			if p == 100 && at == 5 {
				continue
			}
			for _, x := range [][]api.Start{nil, starts([2]int{0, 5})} {
				if l, e := queue.Busy(x, p, at); len(l) != 0 || e != api.ErrRange {
					t.Errorf("Busy(%v, %d, %d) = %v, %d", x, p, at, l, e)
				}
			}
		}
	}
}

// 7.3
func TestIdle(t *testing.T) {
	x := starts([2]int{0, 10}, [2]int{1, 20}, [2]int{0, 30}, [2]int{5, 0})
	for _, c := range []struct {
		x                 []api.Start
		m, p, from, to, n int
	}{
		{nil, 1, 100, 0, 0, 0},
		{nil, 3, 100, 7, 10, 9},
		{nil, 12, 1, 0, last, 12 * last},
		{x, 1, 10, 0, 40, 20},
		{x, 2, 10, 0, 40, 50},
		{x, 5, 10, 0, 40, 170},
		{x, 6, 10, 0, 40, 200},
		{x, 1, 10, 15, 35, 10},
		{x, 1, 10, 10, 20, 0},
		{x, 1, 10, 9, 21, 2},
		{x, 1, 10, 15, 15, 0},
		{x, 2, 10, 100, 200, 200},
		{x, 1, 100000000, 0, last, last - 100000020},
		// the union of starts that are less than p apart, whatever their order
		{starts([2]int{0, 15}, [2]int{0, 10}, [2]int{0, 12}), 1, 10, 0, 30, 15},
		{starts([2]int{0, 10}, [2]int{0, 15}, [2]int{0, 10}), 1, 10, 12, 23, 0},
		{starts([2]int{0, 20}, [2]int{0, 10}), 1, 10, 0, 30, 10},
		{make([]api.Start, 500), 1, 7, 0, 30, 23},
		{starts([2]int{0, last}), 1, 100000000, last - 1, last, 1},
		{[]api.Start{{Basket: -1, Vessel: 0, At: 5}}, 1, 1, 0, 10, 9},
	} {
		if n, e := queue.Idle(c.x, c.m, c.p, c.from, c.to); n != c.n || e != api.OK {
			t.Errorf("Idle of %v = %d, %d", c, n, e)
		}
	}
}

// 7.3: tick by tick.
func TestIdleByItsSentence(t *testing.T) {
	for seed := range 1000 {
		x, p, m := someStarts(seed%60, seed, 100), 1+seed%23, 1+seed%12
		from := numbers(2, seed, 0, 130)
		slices.Sort(from)
		want := 0
		for v := range m {
			for at := from[0]; at < from[1]; at++ {
				if !busyAt(x, v, p, at) {
					want++
				}
			}
		}
		if n, e := queue.Idle(x, m, p, from[0], from[1]); n != want || e != api.OK {
			t.Errorf("Idle(%v, %d, %d, %v) = %d, %d", x, m, p, from, n, e)
		}
	}
}

// 7.3, R2, R3
func TestIdleErrors(t *testing.T) {
	type rest struct{ m, p, from, to int }
	var ranges []rest
	for _, m := range badCounts {
		ranges = append(ranges, rest{m, 100, 0, 10})
	}
	for _, p := range badCooks {
		ranges = append(ranges, rest{2, p, 0, 10})
	}
	for _, at := range badTicks {
		ranges = append(ranges, rest{2, 100, at, 10}, rest{2, 100, 0, at}, rest{2, 100, at, at}, rest{2, 100, at, last})
	}
	ranges = append(ranges, rest{2, 100, 1, 0}, rest{2, 100, last, last - 1}, rest{2, 100, last, 0})
	for _, c := range ranges {
		for _, x := range [][]api.Start{nil, starts([2]int{0, 5})} {
			if n, e := queue.Idle(x, c.m, c.p, c.from, c.to); n != 0 || e != api.ErrRange {
				t.Errorf("Idle(%v, %v) = %d, %d", x, c, n, e)
			}
		}
		for _, x := range badStarts() {
			if n, e := queue.Idle(x, c.m, c.p, c.from, c.to); n != 0 || e != api.ErrInvalid {
				t.Errorf("Idle(%v, %v) = %d, %d", x, c, n, e)
			}
		}
	}
	for _, x := range badStarts() {
		if n, e := queue.Idle(x, 2, 100, 0, 10); n != 0 || e != api.ErrInvalid {
			t.Errorf("Idle(%v) = %d, %d", x, n, e)
		}
	}
}

// 7.3: a basket waits from when it came to the tick before it starts.
func TestWaiting(t *testing.T) {
	l, x := came(0, 0, 10, 30), starts([2]int{0, 0}, [2]int{0, 20}, [2]int{0, 12}, [2]int{0, 25})
	for at, want := range map[int][]int{0: {1}, 9: {1}, 10: {1, 2}, 11: {1, 2}, 12: {1}, 19: {1}, 20: nil, 25: nil, 30: nil, last: nil} {
		if which, e := queue.Waiting(l, x, at); !slices.Equal(which, want) || e != api.OK {
			t.Errorf("Waiting at %d = %v, %d", at, which, e)
		}
	}
	if which, e := queue.Waiting(nil, nil, 0); len(which) != 0 || e != api.OK {
		t.Errorf("Waiting of no baskets = %v, %d", which, e)
	}
	for seed := range 100 {
		l := some(seed, seed, 300)
		x, _ := queue.First(l, 1+seed%3, 40)
		for at := 0; at < 600; at += 17 {
			var want []int
			for i := range l {
				if l[i].Came <= at && x[i].At > at {
					want = append(want, i)
				}
			}
			if which, e := queue.Waiting(l, x, at); !slices.Equal(which, want) || e != api.OK {
				t.Errorf("Waiting(%v, %v, %d) = %v, %d", l, x, at, which, e)
			}
		}
	}
}

// 7.3, R2, R3
func TestWaitingErrors(t *testing.T) {
	for _, at := range append(badTicks, 5) {
		for _, c := range unfit() {
			if which, e := queue.Waiting(c.l, c.x, at); len(which) != 0 || e != api.ErrInvalid {
				t.Errorf("Waiting(%v, %v, %d) = %v, %d", c.l, c.x, at, which, e)
			}
		}
	}
	for _, at := range badTicks {
		if which, e := queue.Waiting(nil, nil, at); len(which) != 0 || e != api.ErrRange {
			t.Errorf("Waiting at %d = %v, %d", at, which, e)
		}
		if which, e := queue.Waiting(came(0), starts([2]int{0, last}), at); len(which) != 0 || e != api.ErrRange {
			t.Errorf("Waiting at %d = %v, %d", at, which, e)
		}
	}
}
