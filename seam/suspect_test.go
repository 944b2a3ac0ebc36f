package seam_test

import (
	"math"
	"slices"
	"testing"

	"cannery/api"
	"cannery/seam"
)

// teardowns makes the sheets of a closer between the ticks 0 and 50, of some of the heads 1 to 4, most of them good.
func teardowns(n, seed int) []api.Sheet {
	var l []api.Sheet
	at, kind := numbers(n, seed, 0, 203), numbers(n, seed+77, 0, 9)
	slices.Sort(at)
	for i, place := range slices.Compact(at) {
		x := sheet(place/4, place%4+1)
		if kind[i] < 3 {
			x = wrinkled(x.Tick, x.Head)
		}
		l = append(l, x)
	}
	return l
}

// good tells of the sheets here.
func good(x api.Sheet) bool { return x.Wrinkle <= 30 }

// safe looks for the sheets before and after a tick.
func safe(l []api.Sheet, head, t int) bool {
	before, after := false, false
	later := false
	for _, x := range l {
		if x.Head == head && x.Tick <= t {
			before = good(x)
		}
		if x.Head == head && x.Tick > t && !later {
			after, later = good(x), true
		}
	}
	return before && after
}

func safeAll(l []api.Sheet, heads, t int) bool {
	for head := 1; head <= heads; head++ {
		if !safe(l, head, t) {
			return false
		}
	}
	return true
}

// ticksFor returns the longest stretches of the ticks from begin to end - 1 for which a condition holds.
func ticksFor(begin, end int, holds func(t int) bool) []api.Stretch {
	var l []api.Stretch
	for t := begin; t < end; t++ {
		last := len(l) - 1
		switch {
		case !holds(t):
		case last >= 0 && l[last].To == t:
			l[last].To++
		default:
			l = append(l, api.Stretch{From: t, To: t + 1})
		}
	}
	return l
}

// windows are the ticks from which and up to which is asked.
var windows = [][2]int{{0, 60}, {0, 51}, {0, 0}, {17, 17}, {17, 18}, {5, 44}, {20, 30}, {55, 58}, {0, 1}}

// 5.2: the example, and the other places of a bad sheet and of missing ones.
func TestSuspectOfOne(t *testing.T) {
	for _, c := range []struct {
		l          []api.Sheet
		begin, end int
		want       []api.Stretch
	}{
		{[]api.Sheet{sheet(0, 1), wrinkled(60, 1), sheet(100, 1)}, 0, 100, stretches(0, 100)},
		{[]api.Sheet{sheet(0, 1), sheet(60, 1), sheet(100, 1)}, 0, 100, nil},
		{[]api.Sheet{sheet(0, 1), sheet(60, 1), sheet(100, 1)}, 0, 101, stretches(100, 101)},
		{[]api.Sheet{sheet(0, 1), sheet(60, 1), sheet(99, 1)}, 0, 100, stretches(99, 100)},
		{[]api.Sheet{sheet(1, 1), sheet(60, 1), sheet(100, 1)}, 0, 100, stretches(0, 1)},
		{[]api.Sheet{sheet(10, 1), sheet(60, 1), wrinkled(70, 1), sheet(80, 1), sheet(90, 1)}, 0, 100, stretches(0, 10, 60, 80, 90, 100)},
		{[]api.Sheet{sheet(10, 1), sheet(60, 1), wrinkled(70, 1), sheet(80, 1), sheet(90, 1)}, 61, 79, stretches(61, 79)},
		{[]api.Sheet{sheet(10, 1), sheet(60, 1), wrinkled(70, 1), sheet(80, 1), sheet(90, 1)}, 80, 90, nil},
		{[]api.Sheet{sheet(10, 1), sheet(60, 1), wrinkled(70, 1), sheet(80, 1), sheet(90, 1)}, 79, 91, stretches(79, 80, 90, 91)},
		// two bad ones, one after the other; a bad one first, and last
		{[]api.Sheet{sheet(0, 1), wrinkled(20, 1), wrinkled(30, 1), sheet(50, 1), sheet(90, 1)}, 0, 90, stretches(0, 50)},
		{[]api.Sheet{wrinkled(0, 1), sheet(50, 1), sheet(90, 1)}, 0, 90, stretches(0, 50)},
		{[]api.Sheet{sheet(0, 1), sheet(50, 1), wrinkled(90, 1)}, 0, 90, stretches(50, 90)},
		// between two bad stretches there may be a good one of a tick
		{[]api.Sheet{wrinkled(0, 1), sheet(50, 1), sheet(51, 1), wrinkled(90, 1)}, 0, 90, stretches(0, 50, 51, 90)},
		{[]api.Sheet{wrinkled(0, 1), sheet(50, 1), wrinkled(90, 1)}, 0, 90, stretches(0, 90)},
		// teardowns before the beginning and after the end count
		{[]api.Sheet{sheet(3, 1), sheet(500, 1)}, 100, 200, nil},
		{[]api.Sheet{wrinkled(3, 1), sheet(500, 1)}, 100, 200, stretches(100, 200)},
		{[]api.Sheet{sheet(3, 1), wrinkled(500, 1)}, 100, 200, stretches(100, 200)},
		{nil, 100, 200, stretches(100, 200)},
		{nil, 100, 100, nil},
		{nil, 0, 100000000, stretches(0, 100000000)},
		{[]api.Sheet{sheet(0, 1), sheet(100000000, 1)}, 0, 100000000, nil},
		{[]api.Sheet{sheet(0, 1), wrinkled(100000000, 1)}, 0, 100000000, stretches(0, 100000000)},
		{[]api.Sheet{sheet(0, 1), sheet(99999999, 1)}, 0, 100000000, stretches(99999999, 100000000)},
		{nil, 100000000, 100000000, nil},
		// other heads do not count
		{[]api.Sheet{sheet(0, 1), wrinkled(0, 2), wrinkled(60, 3), sheet(100, 1)}, 0, 100, nil},
		{[]api.Sheet{sheet(0, 2), sheet(100, 2)}, 0, 100, stretches(0, 100)},
	} {
		if l, e := seam.Suspect(norm(), c.l, 1, c.begin, c.end); !slices.Equal(l, c.want) || e != api.OK {
			t.Errorf("Suspect of %v from %d to %d = %v, %d", c.l, c.begin, c.end, l, e)
		}
		if l, e := seam.Held(norm(), c.l, 1, c.begin, c.end); !slices.Equal(l, c.want) || e != api.OK {
			t.Errorf("Held of %v from %d to %d = %v, %d", c.l, c.begin, c.end, l, e)
		}
	}
}

// 5.2: each fault makes a sheet bad.
func TestSuspectByEachFault(t *testing.T) {
	for _, change := range []func(*api.Sheet){
		func(x *api.Sheet) { x.BodyHook = 2201 },
		func(x *api.Sheet) { x.CoverHook = 2101 },
		func(x *api.Sheet) { x.BodyHook = 1900 },
		func(x *api.Sheet) { x.Wrinkle = 31 },
		func(x *api.Sheet) { x.Thickness = 1301 },
		func(x *api.Sheet) { x.Countersink = 2999 },
	} {
		l := []api.Sheet{sheet(0, 1), sheet(10, 1), sheet(20, 1), sheet(30, 1)}
		change(&l[1])
		if s, e := seam.Held(norm(), l, 1, 0, 30); !slices.Equal(s, stretches(0, 20)) || e != api.OK {
			t.Errorf("Held of %v = %v, %d", l[1], s, e)
		}
	}
}

// 5.2, P5.2, P6: checked tick by tick.
func TestHeldTickByTick(t *testing.T) {
	some := 0
	for seed := range 150 {
		l := teardowns(3+seed/3, seed)
		for _, w := range windows {
			for head := 1; head <= 5; head++ {
				want := ticksFor(w[0], w[1], func(t int) bool { return !safe(l, head, t) })
				if s, e := seam.Suspect(norm(), l, head, w[0], w[1]); !slices.Equal(s, want) || e != api.OK {
					t.Errorf("Suspect of %d in %v of %v = %v, %d, not %v", head, w, l, s, e, want)
				}
			}
			for heads := 1; heads <= 5; heads++ {
				want := ticksFor(w[0], w[1], func(t int) bool { return !safeAll(l, heads, t) })
				s, e := seam.Held(norm(), l, heads, w[0], w[1])
				if !slices.Equal(s, want) || e != api.OK {
					t.Errorf("Held of %d in %v of %v = %v, %d, not %v", heads, w, l, s, e, want)
				}
				if len(s) > 1 {
					some++
				}
			}
		}
		for heads := 1; heads <= 5; heads++ {
			for tick := range 60 {
				if ok, e := seam.Safe(norm(), l, heads, tick); ok != safeAll(l, heads, tick) || e != api.OK {
					t.Errorf("Safe of %d in %v at %d is %t, %d", heads, l, tick, ok, e)
				}
			}
		}
	}
	if some < 200 {
		t.Errorf("there are several stretches only %d times", some)
	}
}

// 5.2: at the first and the last ticks there are.
func TestSafeAtTheEnds(t *testing.T) {
	const last = 100000000
	for _, c := range []struct {
		l    []api.Sheet
		t    int
		want bool
	}{
		{[]api.Sheet{sheet(0, 1), sheet(last, 1)}, 0, true},
		{[]api.Sheet{sheet(0, 1), sheet(last, 1)}, last - 1, true},
		{[]api.Sheet{sheet(0, 1), sheet(last, 1)}, last, false},
		{[]api.Sheet{sheet(1, 1), sheet(last, 1)}, 0, false},
		{[]api.Sheet{wrinkled(0, 1), sheet(last, 1)}, 0, false},
		{[]api.Sheet{sheet(0, 1), wrinkled(last, 1)}, last - 1, false},
		{nil, 0, false},
		{nil, last, false},
	} {
		if ok, e := seam.Safe(norm(), c.l, 1, c.t); ok != c.want || e != api.OK {
			t.Errorf("Safe of %v at %d is %t, %d", c.l, c.t, ok, e)
		}
	}
}

// 5.2: all twelve heads.
func TestHeldOfAllHeads(t *testing.T) {
	var l []api.Sheet
	for _, tick := range []int{0, 50, 100} {
		for head := 1; head <= 12; head++ {
			l = append(l, sheet(tick, head))
		}
	}
	wantHeld := func(heads int, want []api.Stretch) {
		t.Helper()
		if s, e := seam.Held(norm(), l, heads, 0, 100); !slices.Equal(s, want) || e != api.OK {
			t.Errorf("Held of %d = %v, %d", heads, s, e)
		}
	}
	wantHeld(12, nil)
	l[12+11] = wrinkled(50, 12)
	wantHeld(12, stretches(0, 100))
	wantHeld(11, nil)
	l = slices.Delete(l, 12+11, 12+12)
	wantHeld(12, nil)
	l = slices.Delete(l, 12, 13)
	wantHeld(12, nil)
	l = slices.Delete(l, 0, 1)
	wantHeld(1, stretches(0, 100))
	wantHeld(12, stretches(0, 100))
}

// overdue looks for the last sheet of each head.
func overdue(l []api.Sheet, heads, every, t int) bool {
	for head := 1; head <= heads; head++ {
		last := -1
		for _, x := range l {
			if x.Head == head && x.Tick <= t {
				last = x.Tick
			}
		}
		if last < 0 || t-last >= every {
			return true
		}
	}
	return false
}

// 5.2: checked tick by tick.
func TestOverdueTickByTick(t *testing.T) {
	some := 0
	for seed := range 100 {
		l := teardowns(3+seed/2, seed)
		for _, w := range windows {
			for _, every := range []int{1, 2, 5, 13, 29, 60, 100000000} {
				for heads := 1; heads <= 5; heads++ {
					want := ticksFor(w[0], w[1], func(t int) bool { return overdue(l, heads, every, t) })
					s, e := seam.Overdue(l, heads, every, w[0], w[1])
					if !slices.Equal(s, want) || e != api.OK {
						t.Errorf("Overdue of %d every %d in %v of %v = %v, %d, not %v", heads, every, w, l, s, e, want)
					}
					if len(s) > 1 {
						some++
					}
				}
			}
		}
	}
	if some < 500 {
		t.Errorf("there are several stretches only %d times", some)
	}
}

// 5.2
func TestOverdue(t *testing.T) {
	l := []api.Sheet{sheet(10, 1), wrinkled(30, 1), sheet(35, 2), sheet(90, 1)}
	for _, c := range []struct {
		l                        []api.Sheet
		heads, every, begin, end int
		want                     []api.Stretch
	}{
		{l, 1, 20, 0, 100, stretches(0, 10, 50, 90)},
		{l, 1, 19, 0, 100, stretches(0, 10, 29, 30, 49, 90)},
		{l, 1, 21, 0, 100, stretches(0, 10, 51, 90)},
		{l, 1, 60, 0, 100, stretches(0, 10)},
		{l, 1, 59, 0, 100, stretches(0, 10, 89, 90)},
		{l, 1, 1, 0, 100, stretches(0, 10, 11, 30, 31, 90, 91, 100)},
		{l, 1, 20, 0, 200, stretches(0, 10, 50, 90, 110, 200)},
		{l, 1, 20, 60, 70, stretches(60, 70)},
		{l, 1, 20, 60, 60, nil},
		{l, 1, 20, 10, 50, nil},
		{l, 2, 60, 0, 100, stretches(0, 35, 95, 100)},
		{l, 3, 60, 0, 100, stretches(0, 100)},
		{nil, 1, 100000000, 0, 100000000, stretches(0, 100000000)},
		{nil, 1, 100000000, 99999999, 100000000, stretches(99999999, 100000000)},
		{sheetsAt([2]int{0, 1}), 1, 100000000, 0, 100000000, nil},
		{sheetsAt([2]int{0, 1}), 1, 99999999, 0, 100000000, stretches(99999999, 100000000)},
		{sheetsAt([2]int{1, 1}), 1, 100000000, 0, 100000000, stretches(0, 1)},
		{sheetsAt([2]int{100000000, 1}), 1, 1, 0, 100000000, stretches(0, 100000000)},
	} {
		if s, e := seam.Overdue(c.l, c.heads, c.every, c.begin, c.end); !slices.Equal(s, c.want) || e != api.OK {
			t.Errorf("Overdue of %d every %d from %d to %d = %v, %d", c.heads, c.every, c.begin, c.end, s, e)
		}
	}
}

// torn puts in a good sheet of each head at a tick, where there is none.
func torn(l []api.Sheet, heads, tick int) []api.Sheet {
	m := slices.Clone(l)
	for head := 1; head <= heads; head++ {
		if !slices.ContainsFunc(l, func(x api.Sheet) bool { return x.Tick == tick && x.Head == head }) {
			m = append(m, sheet(tick, head))
		}
	}
	slices.SortFunc(m, func(a, b api.Sheet) int { return 100*(a.Tick-b.Tick) + a.Head - b.Head })
	return m
}

// heldLength counts the ticks that are not safe.
func heldLength(l []api.Sheet, heads, begin, end int) int {
	n := 0
	for t := begin; t < end; t++ {
		if !safeAll(l, heads, t) {
			n++
		}
	}
	return n
}

// added tries all ticks in turn.
func added(l []api.Sheet, heads, begin, end, most int) []int {
	var ticks []int
	for range most {
		best, least := -1, heldLength(l, heads, begin, end)
		for t := begin; t <= end; t++ {
			if n := heldLength(torn(l, heads, t), heads, begin, end); n < least {
				best, least = t, n
			}
		}
		if best < 0 {
			break
		}
		ticks = append(ticks, best)
		l = torn(l, heads, best)
	}
	return ticks
}

// 5.3: checked against all ticks in turn.
func TestAddedOfAll(t *testing.T) {
	counts := map[int]int{}
	for seed := range 60 {
		l := teardowns(2+seed/2, seed)
		for _, w := range [][2]int{{0, 52}, {10, 40}, {20, 21}, {20, 20}, {48, 58}} {
			heads, most := 1+seed%3, 3-seed/20%3
			want := added(l, heads, w[0], w[1], most)
			ticks, e := seam.Added(norm(), l, heads, w[0], w[1], most)
			if !slices.Equal(ticks, want) || e != api.OK {
				t.Errorf("Added of %d, at most %d, in %v of %v = %v, %d, not %v", heads, most, w, l, ticks, e, want)
			}
			counts[len(want)]++
		}
	}
	for n := range 4 {
		if counts[n] < 5 {
			t.Errorf("%d are added only %d times", n, counts[n])
		}
	}
}

// 5.3
func TestAdded(t *testing.T) {
	edges := []api.Sheet{sheet(0, 1), wrinkled(60, 1), sheet(100, 1)}
	for _, c := range []struct {
		l                       []api.Sheet
		heads, begin, end, most int
		want                    []int
	}{
		// 59 saves the ticks before, then 61 those behind
		{edges, 1, 0, 100, 0, nil},
		{edges, 1, 0, 100, 1, []int{59}},
		{edges, 1, 0, 100, 2, []int{59, 61}},
		{edges, 1, 0, 100, 3, []int{59, 61}},
		// they need not be in ascending order
		{[]api.Sheet{sheet(0, 1), wrinkled(40, 1), sheet(100, 1)}, 1, 0, 100, 2, []int{41, 39}},
		// of two that leave as much the first
		{[]api.Sheet{sheet(0, 1), wrinkled(50, 1), sheet(100, 1)}, 1, 0, 100, 2, []int{49, 51}},
		{[]api.Sheet{sheet(0, 1), sheet(100, 1)}, 1, 0, 100, 3, nil},
		// one alone may leave no less, so that none is added
		{nil, 1, 0, 100, 3, nil},
		{nil, 12, 0, 2000, 3, nil},
		{nil, 1, 50, 50, 3, nil},
		{sheetsAt([2]int{0, 1}), 1, 0, 100, 3, []int{100}},
		{sheetsAt([2]int{30, 1}), 1, 0, 100, 3, []int{100, 0}},
		{sheetsAt([2]int{70, 1}), 1, 0, 100, 3, []int{0, 100}},
		{sheetsAt([2]int{100, 1}), 1, 0, 100, 3, []int{0}},
		// sheets beyond the ticks count
		{sheetsAt([2]int{200, 1}), 1, 50, 100, 3, []int{50}},
		{sheetsAt([2]int{3, 1}), 1, 50, 100, 3, []int{100}},
		{[]api.Sheet{sheet(3, 1), sheet(200, 1)}, 1, 50, 100, 3, nil},
		{[]api.Sheet{wrinkled(3, 1), sheet(200, 1)}, 1, 50, 100, 3, []int{50}},
		{[]api.Sheet{sheet(3, 1), wrinkled(200, 1)}, 1, 50, 100, 3, []int{100}},
		{[]api.Sheet{wrinkled(3, 1), wrinkled(200, 1)}, 1, 50, 100, 3, nil},
		// a head that has a sheet at the tick keeps its own
		{[]api.Sheet{sheet(0, 1), wrinkled(100, 1)}, 1, 0, 100, 3, []int{99}},
		{[]api.Sheet{sheet(0, 1), sheet(0, 2), wrinkled(100, 2)}, 2, 0, 100, 3, []int{99}},
		{[]api.Sheet{wrinkled(0, 1), sheet(100, 1)}, 1, 0, 100, 3, []int{1}},
		// all heads have a further teardown; those beyond do not count
		{[]api.Sheet{sheet(0, 1), sheet(0, 2), wrinkled(50, 2), sheet(100, 1), sheet(100, 2)}, 2, 0, 100, 3, []int{49, 51}},
		{[]api.Sheet{sheet(0, 1), sheet(0, 2), wrinkled(50, 2), sheet(100, 1), sheet(100, 2)}, 1, 0, 100, 3, nil},
		{[]api.Sheet{sheet(0, 1), sheet(0, 2)}, 2, 0, 100, 3, []int{100}},
		{sheetsAt([2]int{99998000, 1}), 1, 99998000, 100000000, 3, []int{100000000}},
		// four teardowns would help
		{[]api.Sheet{sheet(0, 1), wrinkled(30, 1), wrinkled(60, 1), sheet(100, 1)}, 1, 0, 100, 3, []int{61, 29}},
		{[]api.Sheet{sheet(0, 1), wrinkled(20, 1), sheet(50, 1), wrinkled(75, 1), sheet(100, 1)}, 1, 0, 100, 3, []int{21, 74, 76}},
	} {
		ticks, e := seam.Added(norm(), c.l, c.heads, c.begin, c.end, c.most)
		if !slices.Equal(ticks, c.want) || e != api.OK {
			t.Errorf("Added of %v, %d from %d to %d, at most %d = %v, %d, not %v", c.l, c.heads, c.begin, c.end, c.most, ticks, e, c.want)
		}
	}
}

// 5.3: the longest search, with the most sheets.
func TestAddedOfMany(t *testing.T) {
	l := many(500)
	for i := range l {
		l[i].Head = i%3 + 1
		if i%20 == 7 {
			l[i].Wrinkle = 90
		}
	}
	ticks, e := seam.Added(norm(), l, 3, 0, 2000, 3)
	// 2000 saves what is behind the last sheets; a bad one at 14 is the first of many between good ones at 7 and 21
	if !slices.Equal(ticks, []int{2000, 13, 15}) || e != api.OK {
		t.Errorf("Added = %v, %d", ticks, e)
	}
}

// 5.2, 5.3, R2: all functions of heads and ticks from begin to end.
func TestSuspectErrors(t *testing.T) {
	l := []api.Sheet{sheet(0, 1), sheet(9, 1)}
	want := func(what string, n api.Norm, l []api.Sheet, heads, begin, end int, want api.Errno) {
		t.Helper()
		s, e := seam.Suspect(n, l, heads, begin, end)
		if len(s) != 0 || e != want {
			t.Errorf("%s: Suspect = %v, %d", what, s, e)
		}
		if s, e = seam.Held(n, l, heads, begin, end); len(s) != 0 || e != want {
			t.Errorf("%s: Held = %v, %d", what, s, e)
		}
		if ticks, e := seam.Added(n, l, heads, begin, end, 1); len(ticks) != 0 || e != want {
			t.Errorf("%s: Added = %v, %d", what, ticks, e)
		}
		if s, e = seam.Overdue(l, heads, 1, begin, end); n == norm() && (len(s) != 0 || e != want) {
			t.Errorf("%s: Overdue = %v, %d", what, s, e)
		}
	}
	for _, n := range badNorms() {
		want("a bad norm", n, l, 1, 0, 5, api.ErrInvalid)
		want("a bad norm", n, l, 0, -1, -2, api.ErrInvalid)
	}
	for _, bad := range badLists() {
		want("bad sheets", norm(), bad, 1, 0, 5, api.ErrInvalid)
		want("bad sheets", norm(), bad, 13, -1, 5000, api.ErrInvalid)
	}
	for _, heads := range []int{math.MinInt, -1, 0, 13, math.MaxInt} {
		want("no head", norm(), l, heads, 0, 0, api.ErrRange)
		want("no head", norm(), l, heads, 0, 5, api.ErrRange)
		want("no head", norm(), l, heads, 0, 5000, api.ErrRange)
	}
	for _, w := range [][2]int{{-1, 5}, {-1, -1}, {6, 5}, {5, 100000001}, {100000001, 100000001}, {math.MinInt, math.MaxInt}, {math.MaxInt, math.MinInt}, {0, math.MaxInt}, {0, math.MinInt}} {
		want("no ticks", norm(), l, 1, w[0], w[1], api.ErrRange)
	}
}

// 5.2, R2
func TestSafeErrors(t *testing.T) {
	l := []api.Sheet{sheet(0, 1), sheet(9, 1)}
	want := func(n api.Norm, l []api.Sheet, heads, tick int, want api.Errno) {
		t.Helper()
		if ok, e := seam.Safe(n, l, heads, tick); ok || e != want {
			t.Errorf("Safe by %v of %v, %d at %d is %t, %d", n, l, heads, tick, ok, e)
		}
	}
	for _, n := range badNorms() {
		want(n, l, 1, 5, api.ErrInvalid)
		want(n, l, 0, -1, api.ErrInvalid)
	}
	for _, bad := range badLists() {
		want(norm(), bad, 1, 5, api.ErrInvalid)
		want(norm(), bad, 13, 100000001, api.ErrInvalid)
	}
	for _, heads := range []int{math.MinInt, -1, 0, 13, math.MaxInt} {
		want(norm(), l, heads, 5, api.ErrRange)
	}
	for _, tick := range []int{math.MinInt, -1, 100000001, math.MaxInt} {
		want(norm(), l, 1, tick, api.ErrRange)
	}
}

// 5.2, 5.3: errors of their own.
func TestOverdueAndAddedErrors(t *testing.T) {
	l := []api.Sheet{sheet(0, 1), sheet(9, 1)}
	for _, every := range []int{math.MinInt, -1, 0, 100000001, math.MaxInt} {
		if s, e := seam.Overdue(l, 1, every, 0, 5); len(s) != 0 || e != api.ErrRange {
			t.Errorf("Overdue every %d = %v, %d", every, s, e)
		}
		if s, e := seam.Overdue(badLists()[0], 1, every, 0, 5); len(s) != 0 || e != api.ErrInvalid {
			t.Errorf("Overdue every %d of bad sheets = %v, %d", every, s, e)
		}
	}
	one := []api.Sheet{wrinkled(0, 1), sheet(9, 1)}
	for _, c := range []struct {
		begin, end, most int
		e                api.Errno
	}{
		{0, 2000, 3, api.OK},
		{0, 2001, 3, api.ErrLimit},
		{0, 2001, 0, api.ErrLimit},
		{99998000, 100000000, 0, api.OK},
		{99997999, 100000000, 3, api.ErrLimit},
		{0, 100000000, 1, api.ErrLimit},
		{0, 20, 4, api.ErrRange},
		{0, 20, -1, api.ErrRange},
		{0, 2001, 4, api.ErrRange},
		{0, 2001, -1, api.ErrRange},
		{0, 20, math.MaxInt, api.ErrRange},
		{0, 20, math.MinInt, api.ErrRange},
	} {
		ticks, e := seam.Added(norm(), one, 1, c.begin, c.end, c.most)
		if e != c.e || e != api.OK && len(ticks) != 0 || e == api.OK && (len(ticks) == 0) != (c.most == 0) {
			t.Errorf("Added from %d to %d, at most %d = %v, %d", c.begin, c.end, c.most, ticks, e)
		}
	}
}
