package retort_test

import (
	"fmt"
	"math"
	"slices"
	"testing"

	"cannery/api"
	"cannery/retort"
)

func numbers(n, seed, least, most int) []int {
	l := make([]int, n)
	for i := range l {
		seed = (seed*1103515245 + 12345) % 2147483648
		l[i] = least + seed/8%(most-least+1)
	}
	return l
}

// answers calls each function, and tells the results.
func answers(v api.Vessel, p []api.Step, l []api.Fault, x api.Load, r []api.Reading, n int) string {
	s := fmt.Sprintln(retort.ValidVessel(v), retort.ValidProgram(p), retort.ValidFaults(l), retort.ValidLoad(p, x), retort.Done(p, x),
		retort.ValidRecord(p, r), retort.Whole(p, r), retort.Baths(r), retort.High(r), retort.Same(r, r), retort.Format(p))
	add := func(results ...any) { s += fmt.Sprintln(results...) }
	begun, e := retort.Begin(n)
	add(begun, e)
	next, reading, e := retort.Tick(v, p, l, x)
	add(next, reading, e)
	last, list, e := retort.Run(v, p, l, x)
	add(last, list, e)
	from, to, e := retort.Part(p, r, n)
	add(from, to, e)
	ok, e := retort.Vented(p, r)
	add(ok, e)
	cooked, e := retort.Cooked(p, r, n)
	add(cooked, e)
	deviations, e := retort.Deviations(p, r)
	add(deviations, e)
	marks, e := retort.Marks(r, n)
	add(marks, e)
	credit, e := retort.Credit(r, n)
	add(credit, e)
	return s
}

// P3.1, R1, R7: every call ends, none panics, and a second call answers the same, whatever the arguments.
func TestExtremes(t *testing.T) {
	wild := []api.Reading{{Step: math.MaxInt, Temp: math.MinInt, Chart: math.MaxInt, Bath: math.MinInt}, {Step: math.MinInt}, {Step: 1}, {}, {Step: 5}}
	var all []string
	for _, n := range []int{math.MinInt, -1, 0, 1, 2000, 2001, math.MaxInt} {
		for _, v := range append(vessels(), api.Vessel{}, api.Vessel{Name: "v", Heating: math.MaxInt, Cooling: math.MinInt, Pocket: math.MaxInt}) {
			for i, p := range append(programs(), badPrograms()...) {
				l := append(faults(), badFaults()...)[i%20]
				x := append(loads(p), badLoads(p)...)[i%25]
				r := append(badRecords(), whole(), nil, wild)[i%20]
				for _, record := range [][]api.Reading{r, wild} {
					first := answers(v, p, l, x, record, n)
					if second := answers(v, p, l, x, record, n); second != first {
						t.Errorf("two answers: %s, %s", first, second)
					}
					all = append(all, first)
				}
			}
		}
	}
	if len(all) == 0 {
		t.Error("nothing was called")
	}
}

// P3.1, R4: arguments are read only, also beyond their length, and no memory is shared.
func TestNothingIsShared(t *testing.T) {
	p, l, r := append(cooks(), usual()...), slices.Repeat(faults()[1], 5), append(whole(), whole()...)
	program, list, record := slices.Clone(p), slices.Clone(l), slices.Clone(r)
	call := func() ([]api.Reading, []int, []int, []int, []api.Deviation, []api.Step) {
		x, _ := retort.Begin(0)
		answers(kettle(), p[:5], l[:2], x, r[:10], 2)
		_, run, _ := retort.Run(kettle(), p[:5], l[:2], x)
		marks, _ := retort.Marks(r[:10], 3)
		credit, _ := retort.Credit(r[:10], 1)
		deviations, _ := retort.Deviations(p[:5], r[:10])
		steps, _, _ := retort.Parse(text)
		return run, marks, credit, retort.Baths(r[:10]), deviations, steps
	}
	run, marks, credit, baths, deviations, steps := call()
	spoil(run)
	spoil(marks)
	spoil(credit)
	spoil(baths)
	spoil(deviations)
	spoil(steps)
	if !slices.Equal(p, program) || !slices.Equal(l, list) || !slices.Equal(r, record) {
		t.Error("the arguments have changed")
	}
	run, marks, credit, baths, deviations, steps = call()
	if len(run) == 0 || !slices.Equal(marks, []int{890, 1190, 1089, 80}) || !slices.Equal(credit, baths) || baths[0] != 890 ||
		len(deviations) != 3 || deviations[0].From != 2 || !slices.Equal(steps, usual()) || !retort.Whole(p[:5], run) {
		t.Error("results that were changed come back")
	}
}

// spoil changes all of a list's memory.
func spoil[T any](l []T) {
	l = l[:cap(l)]
	var zero T
	for i := range l {
		l[i] = zero
	}
}

// begun calls f for many a load from its beginning.
func begun(f func(v api.Vessel, p []api.Step, l []api.Fault, x api.Load)) {
	for _, v := range vessels() {
		for _, p := range programs() {
			for _, l := range faults() {
				for _, at := range []int{api.MinTemp, -1, 20000, 100001, api.MaxTemp} {
					x, _ := retort.Begin(at)
					f(v, p, l, x)
				}
			}
		}
	}
}

// aimed is what a load's vessel goes to.
func aimed(p []api.Step, l []api.Fault, x api.Load) int {
	aim := p[x.Step].Set
	for _, f := range l {
		if x.Tick >= f.From && x.Tick < f.To && f.Most < aim {
			aim = f.Most
		}
	}
	return aim
}

// P3.1, P3.2
func TestTicksComeNearer(t *testing.T) {
	begun(func(v api.Vessel, p []api.Step, l []api.Fault, x api.Load) {
		for range 60 {
			if retort.Done(p, x) {
				return
			}
			aim := aimed(p, l, x)
			y, r, e := retort.Tick(v, p, l, x)
			if e != api.OK || !retort.ValidLoad(p, y) || r.Temp != y.Temp || r.Step != x.Step {
				t.Fatalf("Tick(%v, %v, %v, %v) = %v, %v, %d", v, p, l, x, y, r, e)
			}
			was, is := aim-x.Temp, aim-y.Temp
			if was == 0 && is != 0 || was > 0 && (is < 0 || is >= was) || was < 0 && (is > 0 || is <= was) {
				t.Errorf("%v in %v goes from %d to %d, not to %d", x, v, x.Temp, y.Temp, aim)
			}
			x = y
		}
	})
}

// P3.1: loads that no run has are followed too, and stay valid.
func TestTicksOfAnyLoads(t *testing.T) {
	for _, v := range vessels() {
		for _, p := range programs() {
			for _, x := range loads(p) {
				y, _, e := retort.Tick(v, p, nil, x)
				want := api.OK
				switch {
				case x.Step == len(p):
					want = api.ErrState
				case x.Tick == api.MaxTick:
					want = api.ErrRange
				}
				if e != want || e == api.OK && !retort.ValidLoad(p, y) {
					t.Errorf("Tick(%v, %v, %v) = %v, %d", v, p, x, y, e)
				}
			}
		}
	}
}

// P3.3, P4
func TestRunsAreVented(t *testing.T) {
	ended := 0
	begun(func(v api.Vessel, p []api.Step, l []api.Fault, x api.Load) {
		y, r, e := retort.Run(v, p, l, x)
		if e == api.ErrNone {
			return
		}
		ended++
		ok, f := retort.Vented(p, r)
		if e != api.OK || !retort.Done(p, y) || !retort.ValidRecord(p, r) || !retort.Whole(p, r) || !ok || f != api.OK {
			t.Fatalf("Run(%v, %v, %v, %v) = %v, %v, %d", v, p, l, x, y, r, e)
		}
		for _, reading := range r {
			if reading.Temp < reading.Bath || reading.Chart-reading.Temp != v.Chart {
				t.Errorf("in %v a reading is %v", v, reading)
			}
		}
		if (retort.High(r) == 0) != (v.Chart > 0) || (retort.High(r) == -1) != (v.Chart <= 0) {
			t.Errorf("High of %v is %d", v, retort.High(r))
		}
		if deviations, _ := retort.Deviations(p, r); len(l) == 0 && upBeforeCook(p) && len(deviations) > 0 {
			t.Errorf("Run(%v, %v, %v) deviates: %v", v, p, x, deviations)
		}
	})
	if ended < 500 {
		t.Errorf("only %d runs came to an end", ended)
	}
}

// upBeforeCook reports whether each cook comes right behind a step KUp with the same Set.
func upBeforeCook(p []api.Step) bool {
	for i, s := range p {
		if s.Kind == api.KCook && (i == 0 || p[i-1] != api.Step{Kind: api.KUp, Set: s.Set}) {
			return false
		}
	}
	return true
}

// P3.4
func TestRunFromTheMiddle(t *testing.T) {
	begun(func(v api.Vessel, p []api.Step, l []api.Fault, x api.Load) {
		end, all, e := retort.Run(v, p, l, x)
		if e != api.OK {
			return
		}
		for n := range min(len(all), 25) {
			if n < 10 && n%3 == 1 || n == len(all)-1 {
				y, rest, e := retort.Run(v, p, l, x)
				if e != api.OK || y != end || !retort.Same(rest, all[n:]) {
					t.Fatalf("Run(%v, %v, %v, %v) = %v, %v, %d", v, p, l, x, y, rest, e)
				}
			}
			next, r, e := retort.Tick(v, p, l, x)
			if e != api.OK || r != all[n] {
				t.Fatalf("Tick(%v, %v, %v, %v) = %v, %v, %d", v, p, l, x, next, r, e)
			}
			x = next
		}
	})
}
