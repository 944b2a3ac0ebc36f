package retort_test

import (
	"math"
	"slices"
	"testing"

	"cannery/api"
	"cannery/retort"
)

// kettle is at its aim at once when it heats.
func kettle() api.Vessel {
	return api.Vessel{Name: "kettle", Heating: 1000, Cooling: 500, Venting: 250, Pocket: 10000, Chart: -300}
}

// vessels are valid, and at the ends of what is valid.
func vessels() []api.Vessel {
	return []api.Vessel{
		kettle(),
		{Name: "a", Heating: 1, Cooling: 1, Venting: 1, Pocket: 0, Chart: -5000},
		{Name: "a_0123456789_xyz", Heating: 1000, Cooling: 1000, Venting: 1000, Pocket: 50000, Chart: 5000},
		{Name: "slow", Heating: 100, Cooling: 130, Venting: 250, Pocket: 7777},
		{Name: "odd", Heating: 333, Cooling: 667, Venting: 77, Pocket: 50000, Chart: 1},
	}
}

// changed makes as many copies of a value as there are numbers, each with the number put where set puts it.
func changed[T any](x T, set func(x *T, n int), numbers ...int) []T {
	var l []T
	for _, n := range numbers {
		y := x
		set(&y, n)
		l = append(l, y)
	}
	return l
}

// badVessels differ from a valid vessel in one field each.
func badVessels() []api.Vessel {
	v := kettle()
	return slices.Concat(
		[]api.Vessel{{}, {Name: "", Heating: 1, Cooling: 1, Venting: 1}, {Name: "Kettle", Heating: 1, Cooling: 1, Venting: 1}, {Name: "abcdefghijklmnopq", Heating: 1, Cooling: 1, Venting: 1}},
		changed(v, func(v *api.Vessel, n int) { v.Heating = n }, math.MinInt, -1, 0, 1001, math.MaxInt),
		changed(v, func(v *api.Vessel, n int) { v.Cooling = n }, math.MinInt, -1, 0, 1001, math.MaxInt),
		changed(v, func(v *api.Vessel, n int) { v.Venting = n }, math.MinInt, -1, 0, 1001, math.MaxInt),
		changed(v, func(v *api.Vessel, n int) { v.Pocket = n }, math.MinInt, -1, 50001, math.MaxInt),
		changed(v, func(v *api.Vessel, n int) { v.Chart = n }, math.MinInt, -5001, 5001, math.MaxInt),
	)
}

// usual is a program with a step of each kind.
func usual() []api.Step {
	return []api.Step{{Kind: api.KVent, Set: 100000, Ticks: 2}, {Kind: api.KUp, Set: 121000}, {Kind: api.KCook, Set: 121000, Ticks: 3}, {Kind: api.KCool, Set: 30000, Ticks: 2}}
}

// programs are valid, and at the ends of what is valid.
func programs() [][]api.Step {
	return [][]api.Step{
		usual(),
		{{Kind: api.KVent}},
		{{Kind: api.KUp}},
		{{Kind: api.KCook, Ticks: 1}},
		{{Kind: api.KCool, Set: api.MaxTemp, Ticks: 1}},
		{{Kind: api.KVent, Set: api.MaxTemp, Ticks: api.MaxRun}},
		{{Kind: api.KUp, Set: api.MaxTemp}, {Kind: api.KCook, Set: api.MaxTemp, Ticks: 7}, {Kind: api.KUp, Set: 90000}, {Kind: api.KCook, Set: 90000, Ticks: 1}, {Kind: api.KVent, Set: 95000, Ticks: 0}},
		{{Kind: api.KCool, Set: 5, Ticks: api.MaxRun}},
		slices.Repeat([]api.Step{{Kind: api.KCook, Set: 100, Ticks: 3}, {Kind: api.KCook, Set: 70000, Ticks: 4}}, 8),
		slices.Repeat([]api.Step{{Kind: api.KUp, Set: 33}}, 16),
	}
}

// badSteps are in no valid program.
func badSteps() []api.Step {
	l := []api.Step{{}}
	for _, s := range usual() {
		l = append(l, changed(s, func(s *api.Step, n int) { s.Kind = n }, math.MinInt, -1, 0, 5, math.MaxInt)...)
		l = append(l, changed(s, func(s *api.Step, n int) { s.Set = n }, math.MinInt, -1, 200001, math.MaxInt)...)
		l = append(l, changed(s, func(s *api.Step, n int) { s.Ticks = n }, math.MinInt, -1, 2001, math.MaxInt)...)
	}
	return append(l,
		api.Step{Kind: api.KUp, Set: 100, Ticks: 1},
		api.Step{Kind: api.KCook, Set: 100},
		api.Step{Kind: api.KCool, Set: 100})
}

func badPrograms() [][]api.Step {
	l := [][]api.Step{nil, {}, slices.Repeat([]api.Step{{Kind: api.KUp, Set: 33}}, 17)}
	for _, s := range badSteps() {
		l = append(l, []api.Step{s}, append(usual(), s), append([]api.Step{s}, usual()...))
	}
	return l
}

// faults are lists that are valid, and at the ends of what is valid.
func faults() [][]api.Fault {
	return [][]api.Fault{
		nil,
		{{From: 3, To: 5, Most: 110000}},
		{{From: 0, To: 1, Most: 0}},
		{{From: 0, To: api.MaxTick, Most: api.MaxTemp}},
		{{From: api.MaxTick - 1, To: api.MaxTick, Most: 0}},
		{{From: 2, To: 9, Most: 90000}, {From: 4, To: 6, Most: 80000}, {From: 5, To: 20, Most: 85000}},
		slices.Repeat([]api.Fault{{From: 7, To: 11, Most: 50000}}, 16),
	}
}

func badFaults() [][]api.Fault {
	l := [][]api.Fault{slices.Repeat([]api.Fault{{From: 7, To: 11, Most: 50000}}, 17)}
	f := api.Fault{From: 3, To: 5, Most: 110000}
	for _, bad := range slices.Concat(
		changed(f, func(f *api.Fault, n int) { f.From = n }, math.MinInt, -1, 5, 6, math.MaxInt),
		changed(f, func(f *api.Fault, n int) { f.To = n }, math.MinInt, -1, 0, 2, 3, 100000001, math.MaxInt),
		changed(f, func(f *api.Fault, n int) { f.Most = n }, math.MinInt, -1, 200001, math.MaxInt),
		[]api.Fault{{}, {From: math.MinInt, To: math.MinInt}},
	) {
		l = append(l, []api.Fault{bad}, []api.Fault{f, bad})
	}
	return l
}

// loads are valid for a program.
func loads(p []api.Step) []api.Load {
	last, n := len(p)-1, len(p)
	return []api.Load{
		{Temp: 20000, Air: 1000},
		{Temp: api.MinTemp},
		{Temp: api.MaxTemp, Step: last},
		{Tick: 10, Gone: 10, Temp: 50001, Air: 333, Step: last},
		{Tick: api.MaxTick, Gone: api.MaxTick, Air: 1000},
		{Tick: api.MaxTick - 1, Gone: 1, Air: 1},
		{Step: n},
		{Step: n, Tick: api.MaxTick, Temp: 4, Air: 5},
	}
}

// badLoads are not valid for a program.
func badLoads(p []api.Step) []api.Load {
	x := api.Load{Tick: 10, Step: len(p) - 1, Gone: 4, Temp: 20000, Air: 500}
	done := api.Load{Tick: 10, Step: len(p), Temp: 20000, Air: 500}
	return slices.Concat(
		changed(x, func(x *api.Load, n int) { x.Tick = n }, math.MinInt, -1, 0, 3, 100000001, math.MaxInt),
		changed(x, func(x *api.Load, n int) { x.Step = n }, math.MinInt, -1, len(p), len(p)+1, math.MaxInt),
		changed(x, func(x *api.Load, n int) { x.Gone = n }, math.MinInt, -1, 11, math.MaxInt),
		changed(x, func(x *api.Load, n int) { x.Temp = n }, math.MinInt, -50001, 200001, math.MaxInt),
		changed(x, func(x *api.Load, n int) { x.Air = n }, math.MinInt, -1, 1001, math.MaxInt),
		changed(done, func(x *api.Load, n int) { x.Gone = n }, -1, 1, 10),
		changed(done, func(x *api.Load, n int) { x.Tick = n }, -1, 100000001),
	)
}

// 3.1
func TestValidVessel(t *testing.T) {
	for _, v := range vessels() {
		if !retort.ValidVessel(v) {
			t.Errorf("%v is not valid", v)
		}
	}
	for _, v := range badVessels() {
		if retort.ValidVessel(v) {
			t.Errorf("%v is valid", v)
		}
	}
}

// 3.1
func TestValidProgram(t *testing.T) {
	for _, p := range programs() {
		if !retort.ValidProgram(p) {
			t.Errorf("%v is not valid", p)
		}
	}
	for _, p := range badPrograms() {
		if retort.ValidProgram(p) {
			t.Errorf("%v is valid", p)
		}
	}
}

// 3.1
func TestValidFaults(t *testing.T) {
	for _, l := range append(faults(), []api.Fault{}) {
		if !retort.ValidFaults(l) {
			t.Errorf("%v is not valid", l)
		}
	}
	for _, l := range badFaults() {
		if retort.ValidFaults(l) {
			t.Errorf("%v is valid", l)
		}
	}
}

// 3.1
func TestValidLoad(t *testing.T) {
	for _, p := range programs() {
		for _, x := range loads(p) {
			if !retort.ValidLoad(p, x) {
				t.Errorf("%v is not valid for %v", x, p)
			}
		}
		for _, x := range badLoads(p) {
			if retort.ValidLoad(p, x) || retort.Done(p, x) {
				t.Errorf("%v is valid for %v", x, p)
			}
		}
	}
	for _, p := range badPrograms() {
		for _, x := range []api.Load{{Temp: 20000, Air: 1000}, {Step: len(p)}} {
			if retort.ValidLoad(p, x) || retort.Done(p, x) {
				t.Errorf("%v is valid for %v", x, p)
			}
		}
	}
}

// 3.1
func TestBegin(t *testing.T) {
	for _, at := range []int{api.MinTemp, -1, 0, 20000, api.MaxTemp} {
		if x, e := retort.Begin(at); e != api.OK || x != (api.Load{Temp: at, Air: 1000}) {
			t.Errorf("Begin(%d) = %v, %d", at, x, e)
		}
	}
	for _, at := range []int{math.MinInt, -50001, 200001, math.MaxInt} {
		if x, e := retort.Begin(at); e != api.ErrRange || x != (api.Load{}) {
			t.Errorf("Begin(%d) = %v, %d", at, x, e)
		}
	}
}

// 3.1
func TestDone(t *testing.T) {
	for _, p := range programs() {
		for _, x := range loads(p) {
			if retort.Done(p, x) != (x.Step == len(p)) {
				t.Errorf("%v of %v is done: %t", x, p, retort.Done(p, x))
			}
		}
	}
}
