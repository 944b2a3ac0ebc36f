package queue_test

import (
	"cmp"
	"fmt"
	"math"
	"slices"
	"testing"

	"cannery/api"
	"cannery/queue"
)

// answers calls each function, and tells the results.
func answers(can api.Can, l, other []api.Basket, x []api.Start, a, b, c, d int) string {
	s := ""
	add := func(results ...any) { s += fmt.Sprintln(results...) }
	crossings := []int{a, b, c, d, -a, -b, -c, -d}
	add(queue.ValidBaskets(l), queue.ValidPlan(l, a, b, c, x), queue.Proved(l, a, b, c, api.Late{First: d, Last: a}), queue.Clean(crossings), queue.Wrong(crossings))
	starts, e := queue.First(l, a, b)
	add(starts, e)
	starts, late, e := queue.Plan(l, a, b, c)
	add(starts, late, e)
	m, late, e := queue.Vessels(l, b, c)
	add(m, late, e)
	addList := func(l []int, e api.Errno) { add(len(l), l, e) }
	addInt := func(n int, e api.Errno) { add(n, e) }
	addList(queue.Waits(l, x))
	addInt(queue.Longest(l, a, c))
	addInt(queue.End(x, b))
	addList(queue.Busy(x, b, c))
	addInt(queue.Idle(x, a, b, c, d))
	addList(queue.Waiting(l, x, c))
	addInt(queue.Cooled(can, c, d, a))
	addList(queue.Initials(can, c, d, l, x))
	addList(queue.Inside(crossings))
	merged, e := queue.Merge(l, other)
	add(merged, e)
	return s
}

// P7.1, R1, R7: every call ends, none panics, and a second call answers the same, whatever the arguments.
func TestExtremes(t *testing.T) {
	ints := []int{math.MinInt, math.MinInt + 1, -50000, -1, 0, 1, 2, 12, 13, 2000, 2001, 200000, 100000000, 100000001, last, last + 1, math.MaxInt}
	lists := append(badLists(), goodLists()...)
	for range 20 {
		lists = append(lists, some(20, 3, 100), came(make([]int, 30)...))
	}
	starts := append(badStarts(), nil)
	cans := append(cans(), badCans()...)
	for i := range 6000 {
		at := numbers(8, i, 0, 1000)
		pick := func(n int) int { return ints[at[n]%len(ints)] }
		l, other, x := lists[at[4]%len(lists)], lists[at[5]%len(lists)], starts[at[6]%len(starts)]
		if i%2 == 0 {
			x = someStarts(len(l), i, 200)
		}
		can := cans[at[7]%len(cans)]
		if first, second := answers(can, l, other, x, pick(0), pick(1), pick(2), pick(3)), answers(can, l, other, x, pick(0), pick(1), pick(2), pick(3)); first != second {
			t.Errorf("two answers: %s, %s", first, second)
		}
	}
}

// spoil changes all of a list's memory.
func spoil[T any](l []T) {
	clear(l[:cap(l)])
}

// P7.1, R4: arguments are read only, also beyond their length, and no memory is shared.
func TestNothingIsShared(t *testing.T) {
	l, other := append(some(40, 1, 100), badBaskets()...), append([]api.Basket{basket(500, 3), basket(400, 40)}, badBaskets()...)
	x := append(someStarts(40, 2, 120), badStarts()[3]...)
	crossings := []int{9, 4, -4, 2, 7, 0, math.MinInt}
	kept := fmt.Sprint(l, other, x, crossings)
	call := func() (baskets [][]api.Basket, starts [][]api.Start, lists [][]int) {
		l, x := l[:40], x[:40]
		first, _ := queue.First(l, 3, 7)
		plan, _, _ := queue.Plan(l, 3, 7, 100)
		late, _, _ := queue.Plan(l, 1, 50, 0)
		merged, _ := queue.Merge(l, other[:2])
		alone, _ := queue.Merge(l, nil)
		alone2, _ := queue.Merge(nil, l)
		waits, _ := queue.Waits(l, x)
		busy, _ := queue.Busy(x, 30, 50)
		waiting, _ := queue.Waiting(l, x, 40)
		initials, _ := queue.Initials(tuna(), 90000, 20000, l, x)
		inside, _ := queue.Inside(crossings[:5])
		queue.ValidBaskets(l)
		queue.ValidPlan(l, 12, 1, 100000000, x)
		queue.Vessels(l, 7, 10)
		queue.Longest(l, 3, 10)
		queue.Idle(x, 12, 10, 0, 100)
		queue.End(x, 10)
		queue.Clean(crossings[:5])
		if len(late) != 0 {
			t.Errorf("a plan is there with its proof: %v", late)
		}
		return [][]api.Basket{merged, alone, alone2}, [][]api.Start{first, plan}, [][]int{waits, busy, waiting, initials, inside}
	}
	baskets, starts, lists := call()
	before := fmt.Sprint(baskets, starts, lists)
	for _, l := range baskets {
		if len(l) == 0 {
			t.Error("a result has nothing that could be shared")
		}
		spoil(l)
	}
	for _, l := range starts {
		if len(l) == 0 {
			t.Error("a result has nothing that could be shared")
		}
		spoil(l)
	}
	for _, l := range lists {
		if len(l) == 0 {
			t.Error("a result has nothing that could be shared")
		}
		spoil(l)
	}
	if fmt.Sprint(l, other, x, crossings) != kept {
		t.Error("the arguments have changed")
	}
	baskets, starts, lists = call()
	if fmt.Sprint(baskets, starts, lists) != before {
		t.Error("results that were changed come back")
	}
}

// R4: a nil list and an empty one are the same.
func TestEmptyLists(t *testing.T) {
	for _, a := range []int{0, 1, 12} {
		if first, second := answers(tuna(), nil, nil, nil, a, 5, 7, 9), answers(tuna(), []api.Basket{}, []api.Basket{}, []api.Start{}, a, 5, 7, 9); first != second {
			t.Errorf("two answers: %s, %s", first, second)
		}
	}
	if !queue.Clean([]int{}) || !queue.Clean(nil) || queue.Wrong([]int{}) != -1 || queue.Wrong(nil) != -1 {
		t.Error("no crossings are not clean")
	}
}

// ticks lists in ascending order when starts are.
func ticks(x []api.Start) []int {
	l := make([]int, 0, len(x))
	for _, s := range x {
		l = append(l, s.At)
	}
	slices.Sort(l)
	return l
}

// P7.3 (Best), P8
func TestBest(t *testing.T) {
	seen := 0
	for _, c := range smalls(1500) {
		x, e := queue.First(c.l, c.m, c.p)
		if e != api.OK || len(x) != len(c.l) {
			t.Fatalf("First of %v = %v, %d", c, x, e)
		}
		first := ticks(x)
		for plan := range plans(c.l, c.m, c.p, c.w) {
			seen++
			if !queue.ValidPlan(c.l, c.m, c.p, c.w, plan) {
				t.Fatalf("the plan %v of %v is not valid", plan, c)
			}
			for i, at := range ticks(plan) {
				if at < first[i] {
					t.Fatalf("the plan %v of %v is earlier than %v", plan, c, first)
				}
			}
		}
	}
	if seen < 10000 {
		t.Errorf("%d plans", seen)
	}
}

// 7.1: what is not among the plans is not valid.
func TestValidPlanBySearch(t *testing.T) {
	valid, others := 0, 0
	for seed, c := range smalls(600) {
		var all []string
		for plan := range plans(c.l, c.m, c.p, c.w) {
			all = append(all, fmt.Sprint(plan))
		}
		slices.Sort(all)
		at := numbers(100, seed, -1, 9)
		for i := range 20 {
			var x []api.Start
			for j := range c.l {
				x = append(x, api.Start{Basket: j, Vessel: (at[i] + 3*at[i+j+1] + 4) % (c.m + i%10/9), At: c.l[j].Came + at[i+5*j]%(c.w+2)})
			}
			_, found := slices.BinarySearch(all, fmt.Sprint(x))
			if is := queue.ValidPlan(c.l, c.m, c.p, c.w, x); is != found {
				t.Fatalf("the plan %v of %v: %t", x, c, is)
			}
			if found && len(x) > 1 {
				valid++
			}
			if !found {
				others++
			}
		}
	}
	if valid < 300 || others < 1000 {
		t.Errorf("%d plans, %d others", valid, others)
	}
}

// P7.4: more vessels, a shorter p or a longer w never lose a plan.
func TestNoPlanIsLost(t *testing.T) {
	gained := 0
	for seed := range 1000 {
		n, m, p, w := 1+seed%60, 1+seed%11, 2+seed%40, seed%90
		l := some(n, seed, n*p/m)
		_, _, with := queue.Plan(l, m, p, w)
		for _, c := range [][3]int{{m + 1, p, w}, {12, p, w}, {m, p - 1, w}, {m, 1, w}, {m, p, w + 1}, {m, p, 100000000}} {
			_, _, e := queue.Plan(l, c[0], c[1], c[2])
			if with == api.OK && e != api.OK {
				t.Errorf("there is a plan of %v with %d, %d, %d, but not with %v: %d", l, m, p, w, c, e)
			}
			if with != api.OK && e == api.OK {
				gained++
			}
		}
	}
	if gained < 100 {
		t.Errorf("%d plans are gained", gained)
	}
}

// P7.5
func TestLongerCooks(t *testing.T) {
	longer := 0
	for seed := range 300 {
		l, m := some(1+seed%80, seed, 500), 1+seed%12
		var before []int
		for _, p := range []int{1, 2, 3, 10, 11, 40, 1000, 99999999, 100000000} {
			x, _ := queue.First(l, m, p)
			waits, e := queue.Waits(l, x)
			if e != api.OK || len(waits) != len(l) || slices.Min(waits) < 0 {
				t.Fatalf("Waits of %v = %v, %d", x, waits, e)
			}
			for i := range before {
				if waits[i] < before[i] {
					t.Errorf("with %d the basket %d of %v waits %d, with less %d", p, i, l, waits[i], before[i])
				}
				longer += min(1, waits[i]-before[i])
			}
			before = waits
		}
	}
	if longer < 1000 {
		t.Errorf("%d waits are longer", longer)
	}
}

// P7.5: of cans without a Break.
func TestColderRooms(t *testing.T) {
	colder := 0
	for seed := range 60 {
		c := []api.Can{soup(), tuna(), largest()}[seed%3]
		l, at := came(make([]int, 40)...), numbers(1, seed, -40000, 200000)[0]
		x := someStarts(40, seed, 90)
		// by their waits
		slices.SortFunc(x, func(a, b api.Start) int { return cmp.Compare(a.At, b.At) })
		for i := range x {
			x[i].Basket = i
		}
		rooms := append(numbers(6, seed+5, -50000, 200000), -50000, at, at-1, 200000)
		slices.Sort(rooms)
		var before []int
		for _, room := range rooms {
			temps, e := queue.Initials(c, at, room, l, x)
			if e != api.OK || len(temps) != 40 {
				t.Fatalf("Initials = %v, %d", temps, e)
			}
			for i := range before {
				if temps[i] < before[i] {
					t.Errorf("Initials of %v at %d in %d are %v, in a colder room %v", c, at, room, temps, before)
				}
				colder += min(1, temps[i]-before[i])
			}
			before = temps
			for i := 1; i < len(temps) && room <= at; i++ {
				if temps[i] > temps[i-1] {
					t.Errorf("Initials of %v at %d in %d get warmer: %v", c, at, room, temps)
				}
			}
		}
	}
	if colder < 1000 {
		t.Errorf("%d are colder", colder)
	}
}
