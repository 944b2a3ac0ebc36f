package retort_test

import (
	"slices"
	"testing"

	"cannery/api"
	"cannery/retort"
)

// run is what becomes of a load that begins at a temperature.
func run(t *testing.T, v api.Vessel, p []api.Step, l []api.Fault, at int) (api.Load, []api.Reading) {
	t.Helper()
	x, _ := retort.Begin(at)
	y, r, e := retort.Run(v, p, l, x)
	if e != api.OK {
		t.Fatalf("Run of %v, %v, %v from %d: %d", v, p, l, at, e)
	}
	return y, r
}

// 3.2: the document's examples, and how the way to the aim is rounded.
func TestTickTemperature(t *testing.T) {
	for _, c := range []struct{ heating, cooling, from, set, to int }{
		{100, 1, 20000, 120000, 30000},
		{100, 1, 30000, 120000, 39000},
		{100, 1, 100, 119, 101}, // 1.9
		{100, 1, 100, 109, 101}, // 0.9
		{1, 1, 0, 1, 1},
		{1, 1, 0, 999, 1},
		{1, 1, 0, 1999, 1},
		{1, 1, 0, 2000, 2},
		{1000, 1, -50000, 200000, 200000},
		{1000, 1000, 70, 70, 70},
		{1, 1000, 200000, 0, 0},
		{1, 100, 119, 100, 118}, // -1.9
		{1, 100, 109, 100, 108}, // -0.9
		{1, 1, 1, 0, 0},
		{1, 1, 2999, 1000, 2998},
		{1, 1, 3000, 1000, 2998},
		{500, 1, -3, 0, -2}, // 1.5
		{250, 500, -3, 0, -2},
	} {
		v := kettle()
		v.Heating, v.Cooling = c.heating, c.cooling
		for _, kind := range []int{api.KVent, api.KUp, api.KCook, api.KCool} {
			p := []api.Step{{Kind: kind, Set: c.set, Ticks: 9}}
			if kind == api.KUp {
				p[0].Ticks = 0
			}
			x, _ := retort.Begin(c.from)
			y, r, e := retort.Tick(v, p, nil, x)
			if e != api.OK || y.Temp != c.to || r.Temp != c.to {
				t.Errorf("%v goes to %v, %v, %d", c, y, r, e)
			}
		}
	}
}

// 3.2: only venting drives the air out, rounded up; what is left makes the bath colder, rounded up.
func TestTickAir(t *testing.T) {
	for _, c := range []struct{ venting, pocket, before, after, colder int }{
		{250, 10000, 1000, 750, 7500},
		{250, 10000, 750, 562, 5620},
		{250, 1, 1000, 750, 1},
		{250, 0, 1000, 750, 0},
		{1, 50000, 1000, 999, 49950},
		{1, 999, 1000, 999, 999}, // 998.001
		{1, 50000, 1, 0, 0},
		{1, 50000, 0, 0, 0},
		{1, 1001, 2, 1, 2}, // 1.001
		{1000, 50000, 1000, 0, 0},
		{999, 50000, 1000, 1, 50},
		{334, 50000, 3, 1, 50}, // 1.002 goes as 2
		{333, 50000, 3, 2, 100},
	} {
		v := kettle()
		v.Venting, v.Pocket = c.venting, c.pocket
		x := api.Load{Temp: 20000, Air: c.before}
		y, r, e := retort.Tick(v, usual(), nil, x)
		if e != api.OK || y.Air != c.after || r.Bath != 100000-c.colder || r.Chart != 99700 {
			t.Errorf("%v vents to %v, %v, %d", c, y, r, e)
		}
		for _, s := range usual()[1:] {
			y, r, e := retort.Tick(v, []api.Step{s}, nil, x)
			if want := y.Temp - (c.before*c.pocket+999)/1000; e != api.OK || y.Air != c.before || r.Bath != want {
				t.Errorf("%v in %v: %v, %v, %d", c, s, y, r, e)
			}
		}
	}
}

// 3.2: faults lower the aim at their ticks only, and never raise it.
func TestTickFaults(t *testing.T) {
	p := []api.Step{{Kind: api.KUp, Set: 120000}}
	for _, c := range []struct {
		l        []api.Fault
		tick, to int
	}{
		{nil, 5, 120000},
		{[]api.Fault{{From: 5, To: 6, Most: 90000}}, 4, 120000},
		{[]api.Fault{{From: 5, To: 6, Most: 90000}}, 5, 90000},
		{[]api.Fault{{From: 5, To: 6, Most: 90000}}, 6, 120000},
		{[]api.Fault{{From: 0, To: 9, Most: 120001}}, 5, 120000},
		{[]api.Fault{{From: 0, To: 9, Most: 0}}, 5, 0},
		{[]api.Fault{{From: 0, To: 9, Most: 90000}, {From: 5, To: 9, Most: 80000}, {From: 0, To: 9, Most: 85000}}, 5, 80000},
		{[]api.Fault{{From: 0, To: 9, Most: 90000}, {From: 6, To: 9, Most: 80000}, {From: 0, To: 9, Most: 85000}}, 5, 85000},
	} {
		x := api.Load{Tick: c.tick, Temp: 0}
		if y, r, e := retort.Tick(kettle(), p, c.l, x); e != api.OK || y.Temp != c.to || r.Temp != c.to || y.Tick != c.tick+1 {
			t.Errorf("%v: %v, %v, %d", c, y, r, e)
		}
	}
}

// 3.2: when a step of each kind is over.
func TestTickSteps(t *testing.T) {
	for _, c := range []struct {
		s          api.Step
		temp, gone int // after the tick
		over       bool
	}{
		{api.Step{Kind: api.KVent, Set: 100, Ticks: 3}, 100, 3, true},
		{api.Step{Kind: api.KVent, Set: 100, Ticks: 3}, 101, 4, true},
		{api.Step{Kind: api.KVent, Set: 100, Ticks: 3}, 100, 2, false},
		{api.Step{Kind: api.KVent, Set: 100, Ticks: 3}, 99, 3, false},
		{api.Step{Kind: api.KVent, Set: 100, Ticks: 0}, 100, 1, true},
		{api.Step{Kind: api.KUp, Set: 100}, 100, 1, true},
		{api.Step{Kind: api.KUp, Set: 100}, 101, 9, true},
		{api.Step{Kind: api.KUp, Set: 100}, 99, 2000, false},
		{api.Step{Kind: api.KCook, Set: 100, Ticks: 3}, 0, 3, true},
		{api.Step{Kind: api.KCook, Set: 100, Ticks: 3}, 200, 2, false},
		{api.Step{Kind: api.KCook, Set: 100, Ticks: 1}, 0, 1, true},
		{api.Step{Kind: api.KCook, Set: 100, Ticks: 3}, 100, 4, true},
		{api.Step{Kind: api.KCool, Set: 100, Ticks: 3}, 200, 3, true},
		{api.Step{Kind: api.KCool, Set: 100, Ticks: 3}, 100, 2, false},
		{api.Step{Kind: api.KCool, Set: 100, Ticks: 1}, 0, 1, true},
	} {
		v := api.Vessel{Name: "v", Heating: 1, Cooling: 1, Venting: 1}
		x := api.Load{Tick: 3000, Gone: c.gone - 1, Temp: c.temp}
		// the slowest vessel comes nearer by 1
		if c.temp < c.s.Set {
			x.Temp--
		}
		if c.temp > c.s.Set {
			x.Temp++
		}
		want := api.Load{Tick: 3001, Gone: c.gone, Temp: c.temp}
		if c.over {
			want.Step, want.Gone = 1, 0
		}
		for _, p := range [][]api.Step{{c.s}, {c.s, {Kind: api.KUp}}} {
			y, r, e := retort.Tick(v, p, nil, x)
			if e != api.OK || y != want || r != (api.Reading{Temp: c.temp, Chart: c.temp, Bath: c.temp}) {
				t.Errorf("%v: %v, %v, %d", c, y, r, e)
			}
			if retort.Done(p, y) != (c.over && len(p) == 1) {
				t.Errorf("%v is done: %t", y, retort.Done(p, y))
			}
		}
	}
}

// 3.2, R2
func TestTickErrors(t *testing.T) {
	p := usual()
	x, _ := retort.Begin(20000)
	try := func(v api.Vessel, p []api.Step, l []api.Fault, x api.Load, want api.Errno) {
		t.Helper()
		if y, r, e := retort.Tick(v, p, l, x); e != want || y != (api.Load{}) || r != (api.Reading{}) {
			t.Errorf("Tick(%v, %v, %v, %v) = %v, %v, %d", v, p, l, x, y, r, e)
		}
	}
	last := api.Load{Tick: api.MaxTick}
	for _, v := range badVessels() {
		try(v, p, nil, x, api.ErrInvalid)
		try(v, p, nil, last, api.ErrInvalid)
	}
	for _, q := range badPrograms() {
		try(kettle(), q, nil, x, api.ErrInvalid)
	}
	for _, l := range badFaults() {
		try(kettle(), p, l, x, api.ErrInvalid)
		try(kettle(), p, l, api.Load{Step: 4}, api.ErrInvalid)
	}
	for _, y := range badLoads(p) {
		try(kettle(), p, nil, y, api.ErrInvalid)
	}
	try(kettle(), p, nil, api.Load{Step: 4}, api.ErrState)
	try(kettle(), p, nil, api.Load{Step: 4, Tick: api.MaxTick}, api.ErrState)
	try(kettle(), p, nil, last, api.ErrRange)
	if y, _, e := retort.Tick(kettle(), p, nil, api.Load{Tick: api.MaxTick - 1}); e != api.OK || y.Tick != api.MaxTick {
		t.Errorf("the last tick: %v, %d", y, e)
	}
}

// 3.2
func TestRun(t *testing.T) {
	x, r := run(t, kettle(), usual(), nil, 20000)
	if x != (api.Load{Tick: 8, Step: 4, Temp: 52750, Air: 562}) {
		t.Errorf("the load is %v", x)
	}
	if want := []api.Reading{
		{Step: 0, Temp: 100000, Chart: 99700, Bath: 92500},
		{Step: 0, Temp: 100000, Chart: 99700, Bath: 94380},
		{Step: 1, Temp: 121000, Chart: 120700, Bath: 115380},
		{Step: 2, Temp: 121000, Chart: 120700, Bath: 115380},
		{Step: 2, Temp: 121000, Chart: 120700, Bath: 115380},
		{Step: 2, Temp: 121000, Chart: 120700, Bath: 115380},
		{Step: 3, Temp: 75500, Chart: 75200, Bath: 69880},
		{Step: 3, Temp: 52750, Chart: 52450, Bath: 47130},
	}; !slices.Equal(r, want) {
		t.Errorf("the record is %v", r)
	}
	_, r = run(t, kettle(), usual(), []api.Fault{{From: 3, To: 5, Most: 110000}}, 20000)
	var temps []int
	for _, x := range r {
		temps = append(temps, x.Temp)
	}
	if !slices.Equal(temps, []int{100000, 100000, 121000, 115500, 112750, 121000, 75500, 52750}) {
		t.Errorf("with a fault the temperatures are %v", temps)
	}
	// every step takes a tick, also where Set is reached
	if x, r := run(t, kettle(), []api.Step{{Kind: api.KUp}, {Kind: api.KVent}, {Kind: api.KUp}}, nil, 0); x.Tick != 3 || len(r) != 3 {
		t.Errorf("three steps take %d ticks, %v", x.Tick, r)
	}
}

// 3.2
func TestRunOfWhatIsDone(t *testing.T) {
	for _, x := range []api.Load{{Step: 4}, {Step: 4, Tick: api.MaxTick, Temp: -7, Air: 3}} {
		if y, r, e := retort.Run(kettle(), usual(), nil, x); e != api.OK || y != x || len(r) != 0 {
			t.Errorf("Run(%v) = %v, %v, %d", x, y, r, e)
		}
	}
}

// 3.2, R2: how many ticks there may be, and how late.
func TestRunLimits(t *testing.T) {
	cook := func(l ...int) []api.Step {
		var p []api.Step
		for _, n := range l {
			p = append(p, api.Step{Kind: api.KCook, Ticks: n})
		}
		return p
	}
	for _, c := range []struct {
		p    []api.Step
		tick int
		e    api.Errno
	}{
		{cook(2000), 0, api.OK},
		{cook(1000, 1000), 0, api.OK},
		{cook(2000, 1), 0, api.ErrNone},
		{cook(2000, 2000), 0, api.ErrNone},
		{cook(2000), api.MaxTick - 2000, api.OK},
		{cook(2000), api.MaxTick - 1999, api.ErrRange},
		{cook(2000, 1), api.MaxTick - 2002, api.ErrNone},
		{cook(2000, 1), api.MaxTick - 2001, api.ErrNone},
		{cook(2000, 1), api.MaxTick - 2000, api.ErrRange},
		{cook(2000, 1), api.MaxTick - 1999, api.ErrRange},
		{cook(1), api.MaxTick - 1, api.OK},
		{cook(1), api.MaxTick, api.ErrRange},
	} {
		x := api.Load{Tick: c.tick, Air: 1000}
		y, r, e := retort.Run(kettle(), c.p, nil, x)
		if e != c.e || e != api.OK && (y != (api.Load{}) || len(r) != 0) {
			t.Errorf("Run of %v from %d: %v, %d readings, %d", c.p, c.tick, y, len(r), e)
		}
		if e == api.OK && (y.Tick != c.tick+len(r) || !retort.Done(c.p, y)) {
			t.Errorf("Run of %v from %d: %v, %d readings", c.p, c.tick, y, len(r))
		}
	}
}

// 3.2
func TestRunThatNeverEnds(t *testing.T) {
	x, _ := retort.Begin(20000)
	for _, s := range []api.Step{{Kind: api.KUp, Set: 100}, {Kind: api.KVent, Set: 100}} {
		x.Temp = 0
		for most, want := range map[int]api.Errno{99: api.ErrNone, 100: api.OK} {
			if _, r, e := retort.Run(kettle(), []api.Step{s}, []api.Fault{{From: 0, To: api.MaxTick, Most: most}}, x); e != want || e != api.OK && len(r) != 0 {
				t.Errorf("Run of %v with at most %d: %d", s, most, e)
			}
		}
	}
}

// 3.2, R2
func TestRunErrors(t *testing.T) {
	try := func(v api.Vessel, p []api.Step, l []api.Fault, x api.Load) {
		t.Helper()
		if y, r, e := retort.Run(v, p, l, x); e != api.ErrInvalid || y != (api.Load{}) || len(r) != 0 {
			t.Errorf("Run(%v, %v, %v, %v) = %v, %v, %d", v, p, l, x, y, r, e)
		}
	}
	for _, x := range loads(usual()) {
		for _, v := range badVessels() {
			try(v, usual(), nil, x)
		}
		for _, l := range badFaults() {
			try(kettle(), usual(), l, x)
		}
		for _, p := range badPrograms() {
			try(kettle(), p, nil, x)
		}
	}
	for _, p := range programs() {
		for _, x := range badLoads(p) {
			try(kettle(), p, nil, x)
		}
	}
}
