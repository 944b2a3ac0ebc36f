package process_test

import (
	"math"
	"slices"
	"testing"

	"cannery/api"
	"cannery/lethal"
	"cannery/process"
	"cannery/retort"
)

// load is what is judged.
type load struct {
	s             api.Schedule
	p             []api.Step
	r             []api.Reading
	initial, fill int
	c             api.Can
	k, spoiler    api.Killer
}

func (x load) judge() (int, api.Errno) {
	return process.Judge(x.s, x.p, x.r, x.initial, x.fill, x.c, x.k, x.spoiler)
}

func short() api.Schedule {
	return api.Schedule{Product: "peas", Initial: 40000, Temp: 121000, Ticks: 5, Fill: 300}
}

// readings are ten, with all the venting and cooking that short's program asks for. The can is in a bath of 121,000 all the time.
func readings() []api.Reading {
	var r []api.Reading
	for _, x := range [][2]int{{0, 99000}, {0, 100000}, {1, 121000}, {2, 121000}, {2, 121000}, {2, 121500}, {2, 121000}, {2, 121000}, {3, 60000}, {3, 30000}} {
		r = append(r, api.Reading{Step: x[0], Temp: x[1], Chart: x[1], Bath: 121000})
	}
	return r
}

// good is released for its schedule alone: the can gets ten ticks of lethality where the killer needs eleven.
func good() load {
	p, _ := process.Program(short(), 100000, 2, 30000, 2)
	return load{short(), p, readings(), 40000, 300, swift(), needing(11), needing(10)}
}

// with returns a load that differs from the good one.
func with(change func(x *load)) load {
	x := good()
	change(&x)
	return x
}

func wantVerdict(t *testing.T, what string, x load, want int) {
	t.Helper()
	if v, e := x.judge(); v != want || e != api.OK {
		t.Errorf("%s: Judge = %d (%s), %d, not %s", what, v, process.Word(v), e, process.Word(want))
	}
}

// The first rule: nothing else counts where the record lacks something.
func TestJudgeHeld(t *testing.T) {
	for what, change := range map[string]func(x *load){
		"no readings":           func(x *load) { x.r = nil },
		"no cooling":            func(x *load) { x.r = x.r[:8] },
		"the beginning alone":   func(x *load) { x.r = x.r[:2] },
		"vented too shortly":    func(x *load) { x.r = x.r[1:] },
		"vented too cold":       func(x *load) { x.r[1].Temp, x.r[1].Chart = 99999, 99999 },
		"a chart too high":      func(x *load) { x.r[5].Chart = 121501 },
		"at first too high":     func(x *load) { x.r[0].Chart = 99001 },
		"at last too high":      func(x *load) { x.r[9].Chart = 30001 },
		"high in the venting":   func(x *load) { x.r[1].Chart = 200000 },
		"a vent with no ticks":  func(x *load) { x.p[0].Ticks = 3 },
		"a vent that is hotter": func(x *load) { x.p[0].Set = 100001 },
	} {
		x := with(change)
		wantVerdict(t, what, x, api.VHeld)
		x.k, x.spoiler = needing(1), needing(1)
		wantVerdict(t, what+", but sterile", x, api.VHeld)
		x.spoiler = needing(2000)
		x.initial, x.fill = api.MinTemp, 1000000
		wantVerdict(t, what+", but not spoiled", x, api.VHeld)
	}
}

// The second rule: neither killer nor spoiler counts.
func TestJudgeBySchedule(t *testing.T) {
	for what, change := range map[string]func(x *load){
		"good":               func(x *load) {},
		"hotter":             func(x *load) { x.initial = api.MaxTemp },
		"empty":              func(x *load) { x.fill = 0 },
		"a low chart":        func(x *load) { x.r[4].Chart = -1000000 },
		"another product":    func(x *load) { x.s.Product = "corn" },
		"a shorter schedule": func(x *load) { x.s.Ticks = 4 },
		"a colder schedule":  func(x *load) { x.s.Temp = 118000 },
		"hot in time":        func(x *load) { x.s.Temp, x.s.Ticks = 121500, 1 },
		"cold outside":       func(x *load) { x.r[2].Temp, x.r[2].Chart = 90000, 90000 },
		"no heat":            func(x *load) { x.c = large(); x.k = spores() },
		"a longer record":    func(x *load) { x.r = slices.Insert(x.r, 5, x.r[5]) },
	} {
		x := with(change)
		wantVerdict(t, what, x, api.VReleased)
		for _, k := range killers() {
			x.k, x.spoiler = k, k
			wantVerdict(t, what, x, api.VReleased)
		}
	}
}

// offSchedule are loads that the second rule does not release, by a little.
func offSchedule() map[string]func(x *load) {
	return map[string]func(x *load){
		"too cold at first":   func(x *load) { x.initial = 39999 },
		"too full":            func(x *load) { x.fill = 301 },
		"a deviation":         func(x *load) { x.r[4].Temp, x.r[4].Chart = 120999, 120999; x.s.Ticks = 4 },
		"a longer schedule":   func(x *load) { x.s.Ticks = 6 },
		"a hotter schedule":   func(x *load) { x.s.Temp = 121001 },
		"hot for a tick only": func(x *load) { x.s.Temp, x.s.Ticks = 121500, 2 },
	}
}

// The third, the fourth and the fifth rule: just enough is enough.
func TestJudgeByCan(t *testing.T) {
	for what, change := range offSchedule() {
		x := with(change)
		for _, c := range []struct{ needs, spoils, want int }{
			{10, 10, api.VReleased},
			{10, 1, api.VReleased},
			{10, 11, api.VReleased},
			{1, 1, api.VReleased},
			{11, 11, api.VAgain},
			{11, 2000, api.VAgain},
			{11, 10, api.VDestroyed},
			{2000, 1, api.VDestroyed},
		} {
			x.k, x.spoiler = needing(c.needs), needing(c.spoils)
			wantVerdict(t, what, x, c.want)
		}
	}
	x := good()
	x.r = slices.Delete(x.r, 3, 4) // four ticks of cooking
	wantVerdict(t, "a tick too few", x, api.VAgain)
	x.spoiler = needing(9)
	wantVerdict(t, "a tick too few", x, api.VDestroyed)
	x.k = needing(9)
	wantVerdict(t, "a tick too few", x, api.VReleased)
}

// The slowest place tells whether a can is sterile, the fastest whether it is spoiled.
func TestJudgeByPlaces(t *testing.T) {
	x := with(func(x *load) { x.c, x.initial, x.s.Initial = tall(), 101000, 101001 })
	l := sumsOf(tall(), weak(), 101000, retort.Baths(x.r), lethal.Sum)
	up := sumsOf(tall(), weak(), 101000, retort.Baths(x.r), lethal.SumUp)
	slowest, fastest := slices.Min(l)/1000000, slices.Max(up)/1000000
	if slowest < 10 || fastest < 10*slowest {
		t.Fatalf("the places are too much the same: %v", l)
	}
	for _, c := range []struct{ needs, spoils, want int }{
		{slowest, 1, api.VReleased},
		{slowest + 1, fastest, api.VDestroyed},
		{slowest + 1, fastest + 1, api.VAgain},
	} {
		x.k = api.Killer{Name: "weak", Ref: 400, Z: 14, D: c.needs, Goal: 1}
		x.spoiler = api.Killer{Name: "weak", Ref: 400, Z: 14, D: c.spoils, Goal: 1}
		wantVerdict(t, "places", x, c.want)
	}
}

// The can begins with the initial temperature.
func TestJudgeInitial(t *testing.T) {
	x := with(func(x *load) { x.c, x.k, x.initial, x.s.Initial = tall(), needing(10), 121000, api.MaxTemp })
	wantVerdict(t, "a hot can", x, api.VReleased)
	x.initial = 120999
	wantVerdict(t, "a can that is not so hot", x, api.VDestroyed)
}

// The details: baths are cut to the range of temperatures.
func TestJudgeWildBaths(t *testing.T) {
	x := good()
	x.fill = 301
	for i := range x.r {
		x.r[i].Bath = []int{-1000000, 1000000}[i%2]
	}
	k := api.Killer{Name: "top", Ref: 800, Z: 40, D: 5, Goal: 1}
	x.k, x.spoiler = k, k
	wantVerdict(t, "five ticks at the top", x, api.VReleased)
	x.k.D = 6
	wantVerdict(t, "five ticks at the top", x, api.VDestroyed)
	// rates up: five ticks at the top, and five of a millionth
	x.spoiler.D = 6
	wantVerdict(t, "five ticks at the top", x, api.VAgain)
}

// 4.4, R2, R3
func TestJudgeErrors(t *testing.T) {
	var invalid, wrong []load
	for _, s := range badSchedules() {
		invalid = append(invalid, with(func(x *load) { x.s = s }))
	}
	for _, k := range badKillers() {
		invalid = append(invalid, with(func(x *load) { x.k = k }), with(func(x *load) { x.spoiler = k }))
	}
	for _, c := range badCans() {
		invalid = append(invalid, with(func(x *load) { x.c = c }))
	}
	invalid = append(invalid,
		with(func(x *load) { x.p = nil }),
		with(func(x *load) { x.p, x.r = nil, nil }),
		with(func(x *load) { x.p[1].Ticks = 1 }),
		with(func(x *load) { x.p = slices.Repeat(x.p, 5) }),
		with(func(x *load) { x.p = x.p[:3] }),
		with(func(x *load) { x.r = x.r[2:] }),
		with(func(x *load) { x.r[9].Step = 4 }),
		with(func(x *load) { x.r[4].Step = 1 }),
		with(func(x *load) { x.r[0].Step = -1 }),
		with(func(x *load) { x.r[5].Temp = 1000001 }),
		with(func(x *load) { x.r[5].Bath = -1000001 }),
		with(func(x *load) { x.r[5].Chart = math.MinInt }),
		with(func(x *load) { x.r = append(x.r, slices.Repeat(x.r[9:], 1991)...) }),
	)
	for _, n := range []int{math.MinInt, api.MinTemp - 1, api.MaxTemp + 1, math.MaxInt} {
		wrong = append(wrong, with(func(x *load) { x.initial = n }))
	}
	for _, n := range []int{math.MinInt, -1, 1000001, math.MaxInt} {
		wrong = append(wrong, with(func(x *load) { x.fill = n }), with(func(x *load) { x.fill, x.r = n, nil }))
	}
	for _, x := range wrong {
		if v, e := x.judge(); v != 0 || e != api.ErrRange {
			t.Errorf("Judge(%v) = %d, %d", x, v, e)
		}
	}
	for _, x := range invalid {
		if v, e := x.judge(); v != 0 || e != api.ErrInvalid {
			t.Errorf("Judge(%v) = %d, %d", x, v, e)
		}
		x.initial, x.fill = api.MaxTemp+1, -1
		if v, e := x.judge(); v != 0 || e != api.ErrInvalid {
			t.Errorf("Judge(%v) = %d, %d", x, v, e)
		}
	}
	for _, n := range []int{0, 300, 1000000} {
		if v, e := with(func(x *load) { x.fill = n }).judge(); v == 0 || e != api.OK {
			t.Errorf("Judge with the fill %d = %d, %d", n, v, e)
		}
	}
}

// 4.5
func TestWord(t *testing.T) {
	for v, want := range map[int]string{
		api.VReleased: "released", api.VHeld: "held", api.VAgain: "again", api.VDestroyed: "destroyed",
		0: "", 5: "", -1: "", math.MinInt: "", math.MaxInt: "", 257: "",
	} {
		if s := process.Word(v); s != want {
			t.Errorf("Word(%d) = %q", v, s)
		}
	}
}

// P4.6, P4: loads that vessels made, with faults and without, are judged as the rules say, one by one.
func TestJudgeRuns(t *testing.T) {
	count := map[int]int{}
	vessels := []api.Vessel{
		{Name: "kettle", Heating: 100, Cooling: 130, Venting: 250, Pocket: 10000},
		{Name: "high", Heating: 300, Cooling: 130, Venting: 250, Pocket: 1000, Chart: 1},
		{Name: "full", Heating: 300, Cooling: 300, Venting: 100, Pocket: 30000, Chart: -200},
	}
	for i, n := range numbers(300, 5, 0, 1000000) {
		v := vessels[i%3]
		s := api.Schedule{Product: "peas", Initial: 20000 + n%3*10000, Temp: 106000 + n%7*1000, Ticks: 1 + n%40, Fill: 300}
		p, _ := process.Program(s, 100000, n%6, 20000, 1+n%9)
		var l []api.Fault
		if n%2 == 0 {
			l = []api.Fault{{From: 60, To: 61 + n%50, Most: s.Temp - n%11*500}}
		}
		begun, _ := retort.Begin(20000)
		_, r, e := retort.Run(v, p, l, begun)
		if e != api.OK {
			t.Fatalf("Run: %d", e)
		}
		if n%13 == 0 {
			r = r[:len(r)*(n%5+1)/5]
		}
		c := cans()[n%6]
		if n%6 == 3 {
			c = tall()
		}
		k, spoiler := weak(), weak()
		k.D, spoiler.D, spoiler.Z = 1+n%1000, []int{1, 30, 100, 1000000}[n/7%4], 20
		x := load{s, p, r, 30000, 299 + n%3, c, k, spoiler}
		verdict, e := x.judge()
		if want := x.byTheRules(); verdict != want || e != api.OK {
			t.Errorf("Judge(%v) = %d, %d, not %d", x, verdict, e, want)
		}
		count[verdict]++
	}
	for v := api.VReleased; v <= api.VDestroyed; v++ {
		if count[v] < 5 {
			t.Errorf("%s was given %d times", process.Word(v), count[v])
		}
	}
}

// byTheRules judges anew, by other functions where there are some.
func (x load) byTheRules() int {
	vented, _ := retort.Vented(x.p, x.r)
	if !vented || !retort.Whole(x.p, x.r) || retort.High(x.r) >= 0 {
		return api.VHeld
	}
	s := x.s
	s.Product = "peas"
	_, e := process.Lookup([]api.Schedule{s}, "peas", x.initial, x.fill)
	deviations, _ := retort.Deviations(x.p, x.r)
	cooked, _ := retort.Cooked(x.p, x.r, s.Temp)
	if e == api.OK && len(deviations) == 0 && cooked >= s.Ticks {
		return api.VReleased
	}
	if f := sumsOf(x.c, x.k, x.initial, retort.Baths(x.r), lethal.Sum); slices.Min(f) >= lethal.Needs(x.k) {
		return api.VReleased
	}
	if f := sumsOf(x.c, x.spoiler, x.initial, retort.Baths(x.r), lethal.SumUp); slices.Max(f) < lethal.Needs(x.spoiler) {
		return api.VAgain
	}
	return api.VDestroyed
}
