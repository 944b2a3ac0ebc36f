package plant_test

import (
	"fmt"
	"strings"
	"testing"

	"cannery/api"
	"cannery/plant"
)

// setup is that of a small plant. Its cans have one place, so that loads are quickly reckoned.
func setup() plant.Setup {
	return plant.Setup{
		Vessel:  api.Vessel{Name: "kettle", Heating: 300, Cooling: 300, Venting: 250, Pocket: 10000},
		Can:     api.Can{Rings: 1, Layers: 1, Radial: 100, Axial: 50},
		Killer:  api.Killer{Name: "spores", Ref: 484, Z: 40, D: 6, Goal: 6},
		Spoiler: api.Killer{Name: "taste", Ref: 484, Z: 60, D: 8, Goal: 5},
		Norm: api.Norm{
			BodyLo: 1800, BodyHi: 2200, CoverLo: 1700, CoverHi: 2100, Percent: 45, Wrinkle: 30,
			ThickLo: 1100, ThickHi: 1300, SinkLo: 3000, SinkHi: 3400,
		},
		Schedules: []api.Schedule{
			{Product: "peas", Initial: 20000, Temp: 121000, Ticks: 30, Fill: 300},
			{Product: "peas", Initial: 60000, Temp: 121000, Ticks: 25, Fill: 300},
			{Product: "beans", Initial: 0, Temp: 118000, Ticks: 40, Fill: 500},
			{Product: "stone", Initial: 20000, Temp: 121000, Ticks: api.MaxRun, Fill: 300},
		},
		Vent: 100000, VentTicks: 5, Cold: 20000, Cooling: 10,
		Heads: 2, Life: 100,
		Plant: "A", Line: "7",
	}
}

// quick is a setup whose loads of peas are done after a few ticks.
func quick() plant.Setup {
	x := setup()
	x.Vent, x.VentTicks, x.Cooling = 0, 0, 1
	x.Schedules = []api.Schedule{{Product: "peas", Initial: 20000, Temp: x.Cold, Ticks: 1, Fill: 300}}
	return x
}

// opened returns a new plant with a setup that must be valid.
func opened(t *testing.T, x plant.Setup) *plant.Plant {
	t.Helper()
	p, e := plant.New(x)
	if e != api.OK || p == nil {
		t.Fatalf("New = %v, %d", p, e)
	}
	return p
}

// ran returns a new plant that has done a script, in which no line may fail.
func ran(t *testing.T, script string) *plant.Plant {
	t.Helper()
	p := opened(t, setup())
	run(t, p, script)
	return p
}

// run does a script in which no line may fail.
func run(t *testing.T, p *plant.Plant, script string) {
	t.Helper()
	if out := plant.Do(p, script); strings.Contains(out, "error") {
		t.Fatalf("%q prints %q", script, out)
	}
}

// The numbers of a sheet behind its head.
const (
	goodSeam = " 2000 1900 3000 200 180 20 1200 3200"
	badSeam  = " 2000 1900 3000 200 180 31 1200 3200"
)

// sheetOf is the sheet of goodSeam.
func sheetOf(tick, head int) api.Sheet {
	return api.Sheet{
		Tick: tick, Head: head, BodyHook: 2000, CoverHook: 1900, Height: 3000, EndPlate: 200, BodyPlate: 180,
		Wrinkle: 20, Thickness: 1200, Countersink: 3200,
	}
}

// teardown is a script of good teardowns of both heads.
const teardown = "tear 1" + goodSeam + "\ntear 2" + goodSeam + "\n"

// The faults of a load of peas that make a deviation, behind which it is sterile, spoiled, or neither.
const (
	mild   = " 65:70:118000"
	medium = " 65:80:114000"
	strong = " 65:91:20000"
)

// summer makes a plant with lots in each other, a released pallet each with joe and ann, one free, one held, one destroyed, and a lot recalled.
const summer = "lot fish 100\nlot brine 50\n" + teardown +
	"wait 1\nlot batch 120\nlot cans 60\nlot other 10\n" +
	"use fish batch 90 100\nuse brine batch 20 30\n" +
	"cook peas batch 1 100 20000 280\ncook peas batch 2 90 20000 280" + mild + "\ncook beans other 3 80 0 500\n" +
	"wait 1\nlot tin 60\nuse batch tin 50 60\n" +
	"cook peas tin 4 70 60000 300\ncook peas tin 5 60 20000 300" + medium + "\ncook peas tin 6 50 20000 300" + strong + "\n" +
	"wait 2\n" + teardown +
	"judge 1\njudge 2\njudge 3\njudge 4\nship 1 joe\nship 4 ann\nwait 3\nship 3 ann\nback 3\nrecall brine\n"

// told tells all that a plant tells of itself.
func told(p *plant.Plant) string {
	lots, uses := p.Graph()
	var records [][]api.Reading
	for _, x := range p.Entries() {
		r, e := p.Record(x.Number)
		if e != api.OK {
			return "no record"
		}
		records = append(records, r)
	}
	return fmt.Sprintf("%d\n%v\n%v\n%v\n%v\n%v\n%v\n%v\n%v\n%s", p.Now(), p.Entries(), records, p.Sheets(), lots, uses, p.Moves(), p.Recalled(), p.Lines(), p.Bytes())
}

// attempt is a command that is tried on a plant, and the error that it has.
type attempt struct {
	name string
	do   func(p *plant.Plant) api.Errno
	want api.Errno
}

// try tries commands, each on a plant that a script has made. One that fails must change nothing, any other one must add a line.
func try(t *testing.T, x plant.Setup, script string, l []attempt) {
	t.Helper()
	var p *plant.Plant
	for i, a := range l {
		// A plant on which a command failed is as it was.
		if i == 0 || l[i-1].want == api.OK {
			p = opened(t, x)
			run(t, p, script)
		}
		before, lines := told(p), len(p.Lines())
		if e := a.do(p); e != a.want {
			t.Errorf("%s: %d, not %d", a.name, e, a.want)
		}
		switch {
		case a.want != api.OK && told(p) != before:
			t.Errorf("%s: fails, but changes the plant", a.name)
		case a.want == api.OK && len(p.Lines()) != lines+1:
			t.Errorf("%s: %d lines, not %d", a.name, len(p.Lines()), lines+1)
		}
	}
}
