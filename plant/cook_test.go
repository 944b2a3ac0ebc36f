package plant_test

import (
	"fmt"
	"math"
	"slices"
	"strings"
	"testing"

	"cannery/api"
	"cannery/lethal"
	"cannery/plant"
	"cannery/process"
	"cannery/retort"
	"cannery/store"
)

func cook(product, lot string, pallet, cans, initial, fill int, l ...api.Fault) func(p *plant.Plant) api.Errno {
	return func(p *plant.Plant) api.Errno {
		before := len(p.Entries())
		x, e := p.Cook(product, lot, pallet, cans, initial, fill, l)
		if (e == api.OK) != (x != api.Entry{}) {
			panic("an entry with an error, or none")
		}
		if e == api.OK && x != p.Entries()[before] {
			panic("not the last entry")
		}
		return e
	}
}

// Of 10.2: Cook's errors, in their order.
func TestCookErrors(t *testing.T) {
	tooMany := slices.Repeat([]api.Fault{{From: 1, To: 2, Most: 3}}, 17)
	try(t, setup(), "lot a 10\ncook peas a 1 100 20000 300\n", []attempt{
		{"a load", cook("peas", "a", 2, 100, 20000, 300), api.OK},
		{"with 16 faults", cook("peas", "a", 2, 100, 20000, 300, tooMany[:16]...), api.OK},
		{"the greatest", cook("peas", "a", 1000000, 1000000, 200000, 0), api.OK},
		{"no name", cook("Peas", "a", 2, 100, 20000, 300), api.ErrInvalid},
		{"no name and no lot", cook("", "b", 2, 100, 20000, 300), api.ErrInvalid},
		{"no lot", cook("peas", "b", 2, 100, 20000, 300), api.ErrName},
		{"no lot and wrong faults", cook("peas", "b", 2, 100, 20000, 300, api.Fault{}), api.ErrName},
		{"wrong faults", cook("peas", "a", 2, 100, 20000, 300, api.Fault{From: 2, To: 2, Most: 3}), api.ErrInvalid},
		{"too many faults", cook("peas", "a", 2, 100, 20000, 300, tooMany...), api.ErrInvalid},
		{"wrong faults and too cold", cook("peas", "a", 2, 100, -50001, 300, api.Fault{}), api.ErrInvalid},
		{"below all temperatures", cook("peas", "a", 2, 100, -50001, 300), api.ErrRange},
		{"above all temperatures", cook("peas", "a", 2, 100, 200001, 300), api.ErrRange},
		{"fill below 0", cook("peas", "a", 2, 100, 20000, -1), api.ErrRange},
		{"fill too great", cook("peas", "a", 2, 100, 20000, 1000001), api.ErrRange},
		{"out of range and of no schedule", cook("corn", "a", 2, 100, 20000, math.MaxInt), api.ErrRange},
		{"of no schedule", cook("corn", "a", 2, 100, 20000, 300), api.ErrName},
		{"of no schedule, and a pallet out of range", cook("corn", "a", 0, 100, 20000, 300), api.ErrName},
		{"too cold for its schedules", cook("peas", "a", 2, 100, 19999, 300), api.ErrNone},
		{"too full for its schedules", cook("peas", "a", 2, 100, 20000, 301), api.ErrNone},
		{"longer than a run", cook("stone", "a", 2, 100, 20000, 300), api.ErrNone},
		{"longer than a run, and a pallet out of range", cook("stone", "a", 0, 100, 20000, 300), api.ErrNone},
		{"never hot", cook("peas", "a", 2, 100, 20000, 300, api.Fault{From: 0, To: api.MaxTick, Most: 0}), api.ErrNone},
		{"pallet out of range", cook("peas", "a", 0, 0, 20000, 300), api.ErrRange},
		{"pallet far out of range", cook("peas", "a", 1000001, 100, 20000, 300), api.ErrRange},
		{"no cans", cook("peas", "a", 1, 0, 20000, 300), api.ErrInvalid},
		{"too many cans", cook("peas", "a", 2, 1000001, 20000, 300), api.ErrInvalid},
		{"a pallet that is there", cook("peas", "a", 1, 100, 20000, 300), api.ErrDuplicate},
	})
	try(t, setup(), "lot a 10\ncook peas a 1 100 20000 300\nscrap 1\n", []attempt{
		{"a pallet that was there", cook("peas", "a", 1, 100, 20000, 300), api.ErrDuplicate},
	})
	try(t, setup(), "", []attempt{
		{"in a plant without lots", cook("peas", "a", 1, 100, 20000, 300), api.ErrName},
	})
	x := setup()
	x.VentTicks, x.Cooling = 1999, 2
	try(t, x, "lot a 10\n", []attempt{
		{"Program's error", cook("peas", "a", 0, 0, 20000, 300), api.ErrRange},
		{"Lookup's error before it", cook("peas", "a", 1, 100, 19999, 300), api.ErrNone},
	})
}

// Of 10.2: there may be 500 pallets.
func TestLimitOfPallets(t *testing.T) {
	script := "lot a 10\n"
	for i := range 500 {
		script += fmt.Sprintf("cook peas a %d 1 20000 300\n", i+1)
	}
	try(t, quick(), script[:strings.LastIndex(script, "cook")], []attempt{{"the 500th", cook("peas", "a", 501, 1, 20000, 300), api.OK}})
	try(t, quick(), script+"scrap 1\n", []attempt{
		{"one too many", cook("peas", "a", 501, 1, 20000, 300), api.ErrLimit},
		{"one that was there", cook("peas", "a", 1, 1, 20000, 300), api.ErrDuplicate},
	})
}

// Of 10.2: what loads come to, and their entries.
func TestVerdicts(t *testing.T) {
	p := ran(t, summer)
	want := []api.Entry{
		{Number: 1, Product: "peas", Lot: "batch", Code: "peas-1", Verdict: api.VReleased, Reached: 1324},
		{Number: 2, Product: "peas", Lot: "batch", Code: "peas-2", Verdict: api.VReleased, Reached: 1259},
		{Number: 3, Product: "beans", Lot: "other", Code: "beans-3", Verdict: api.VReleased, Reached: 804},
		{Number: 4, Product: "peas", Lot: "tin", Code: "peas-4", Verdict: api.VReleased, Reached: 1193},
		{Number: 5, Product: "peas", Lot: "tin", Code: "peas-5", Verdict: api.VDestroyed, Reached: 958},
		{Number: 6, Product: "peas", Lot: "tin", Code: "peas-6", Verdict: api.VAgain, Reached: 616},
	}
	if l := p.Entries(); !slices.Equal(l, want) {
		t.Errorf("Entries = %v", l)
	}
	if _, e := store.Pallet(100, p.Moves(), 5); e != api.ErrName {
		t.Errorf("the destroyed pallet: %d", e)
	}
	// A chart that is too high holds whatever its record is.
	x := setup()
	x.Vessel.Chart = 1
	p = opened(t, x)
	run(t, p, "lot a 10\n"+teardown)
	entry, e := p.Cook("peas", "a", 9, 100, 20000, 300, nil)
	if e != api.OK || entry != (api.Entry{Number: 1, Product: "peas", Lot: "a", Code: "peas-1", Verdict: api.VHeld, Reached: 1324}) {
		t.Errorf("Cook = %v, %d", entry, e)
	}
	run(t, p, "wait 1\n"+teardown)
	if e := p.Judge(1); e != api.ErrState {
		t.Errorf("Judge: %d", e)
	}
}

// Of 10.2 and 10.3: records, verdicts and what was reached are those that the lower layers tell.
func TestRecords(t *testing.T) {
	x := setup()
	x.Can = api.Can{Rings: 2, Layers: 2, Radial: 150, Axial: 100, Break: 60000, Radial2: 200, Axial2: 100}
	x.Cold = 15000
	for _, c := range []struct {
		initial, fill, which int
		faults               []api.Fault
	}{
		{20000, 300, 0, nil},
		{59999, 1, 0, []api.Fault{{From: 0, To: 50, Most: 30000}}},
		{60000, 300, 1, []api.Fault{{From: 70, To: 75, Most: 119000}, {From: 72, To: 80, Most: 118000}}},
		{90000, 0, 1, []api.Fault{{From: 65, To: 91, Most: 20000}}},
		{200000, 0, 1, []api.Fault{{From: 65, To: 91, Most: 0}}},
	} {
		p := opened(t, x)
		run(t, p, "lot a 10\n")
		got, e := p.Cook("peas", "a", 7, 100, c.initial, c.fill, c.faults)
		s := x.Schedules[c.which]
		program := []api.Step{{Kind: api.KVent, Set: x.Vent, Ticks: x.VentTicks}, {Kind: api.KUp, Set: s.Temp}, {Kind: api.KCook, Set: s.Temp, Ticks: s.Ticks}, {Kind: api.KCool, Set: x.Cold, Ticks: x.Cooling}}
		_, record, _ := retort.Run(x.Vessel, program, c.faults, api.Load{Temp: x.Cold, Air: 1000})
		verdict, _ := process.Judge(s, program, record, c.initial, c.fill, x.Can, x.Killer, x.Spoiler)
		_, f, _ := process.Lethality(x.Can, x.Killer, c.initial, retort.Baths(record))
		reached, _ := lethal.Reached(x.Killer, f)
		if want := (api.Entry{Number: 1, Product: "peas", Lot: "a", Code: "peas-1", Verdict: verdict, Reached: reached}); e != api.OK || got != want {
			t.Errorf("%v: Cook = %v, %d", c, got, e)
		}
		if r, e := p.Record(1); e != api.OK || !retort.Same(r, record) {
			t.Errorf("%v: Record is another one, or %d", c, e)
		}
	}
	p := ran(t, summer)
	for number, want := range map[int]api.Errno{-1: api.ErrName, 0: api.ErrName, 1: api.OK, 6: api.OK, 7: api.ErrName, math.MinInt: api.ErrName, math.MaxInt: api.ErrName} {
		if r, e := p.Record(number); e != want || (len(r) > 0) != (want == api.OK) {
			t.Errorf("Record of %d = %v, %d", number, r, e)
		}
	}
}

// Of 10.2: Judge's errors, in their order.
func TestJudgeErrors(t *testing.T) {
	try(t, setup(), summer, []attempt{
		{"held, but of another lot", judge(3), api.OK},
		{"no entry 0", judge(0), api.ErrName},
		{"no entry 7", judge(7), api.ErrName},
		{"an entry far away", judge(math.MinInt), api.ErrName},
		{"shipped", judge(1), api.ErrState},
		{"held by a recall", judge(2), api.ErrHeld},
		{"destroyed", judge(5), api.ErrState},
		{"to be cooked again, and recalled", judge(6), api.ErrState},
	})
	base := "lot a 10\n" + teardown + "cook peas a 5 100 20000 300\n"
	for name, c := range map[string]struct {
		script string
		want   api.Errno
	}{
		"safe":                      {base + "wait 1\n" + teardown, api.OK},
		"no teardown after it":      {base, api.ErrHeld},
		"none of head 2 after it":   {base + "wait 1\ntear 1" + goodSeam + "\n", api.ErrHeld},
		"a bad one after it":        {base + "wait 1\ntear 1" + goodSeam + "\ntear 2" + badSeam + "\nwait 1\n" + teardown, api.ErrHeld},
		"a bad one long after it":   {base + "wait 1\n" + teardown + "wait 1\ntear 1" + badSeam + "\n", api.OK},
		"none before it":            {"lot a 10\ncook peas a 5 100 20000 300\nwait 1\n" + teardown + "wait 1\n" + teardown, api.ErrHeld},
		"free already":              {base + "wait 1\n" + teardown + "judge 1\n", api.ErrState},
		"free already and recalled": {base + "wait 1\n" + teardown + "judge 1\nrecall a\n", api.ErrHeld},
		"back again":                {base + "wait 1\n" + teardown + "judge 1\nship 5 joe\nback 5\n", api.OK},
		"back again and recalled":   {base + "wait 1\n" + teardown + "judge 1\nship 5 joe\nback 5\nrecall a\n", api.ErrHeld},
		"shipped":                   {base + "wait 1\n" + teardown + "judge 1\nship 5 joe\n", api.ErrState},
		"shipped and recalled":      {base + "wait 1\n" + teardown + "judge 1\nship 5 joe\nrecall a\n", api.ErrState},
		"scrapped":                  {base + "wait 1\n" + teardown + "scrap 5\n", api.ErrState},
		"scrapped and recalled":     {base + "wait 1\nscrap 5\nrecall a\n", api.ErrState},
		"recalled":                  {base + "wait 1\n" + teardown + "recall a\n", api.ErrHeld},
		"another lot recalled":      {base + "lot b 10\nwait 1\n" + teardown + "recall b\n", api.OK},
		"expired":                   {base + "wait 1\n" + teardown + "wait 500\n", api.OK},
		"a later load":              {base + "cook peas a 6 100 20000 300\nwait 1\n" + teardown, api.OK},
	} {
		try(t, setup(), c.script, []attempt{{name, judge(1), c.want}})
	}
	// Only the heads of the setup count, and the tick of the load, not that of the Judge.
	x := setup()
	x.Heads = 1
	try(t, x, "tear 1"+goodSeam+"\nlot a 10\ncook peas a 5 100 20000 300\nwait 1\ntear 1"+goodSeam+"\n", []attempt{{"one head", judge(1), api.OK}})
	x.Heads = 3
	try(t, x, base+"wait 1\n"+teardown, []attempt{{"three heads", judge(1), api.ErrHeld}})
}

// Of 10.2: the pallet of an entry is that of its Cook, whatever its number.
func TestPalletsOfEntries(t *testing.T) {
	p := ran(t, "lot a 10\n"+teardown+"cook peas a 2 100 20000 300\ncook peas a 1 100 20000 300\nwait 1\n"+teardown+"judge 1\n")
	for number, held := range map[int]bool{1: true, 2: false} {
		if x, e := store.Pallet(100, p.Moves(), number); e != api.OK || x.Held != held || x.Lot != "a" || x.Cans != 100 || x.Expires != 100 {
			t.Errorf("pallet %d: %v, %d", number, x, e)
		}
	}
}
