package plant

import (
	"strconv"

	"cannery/api"
	"cannery/lethal"
	"cannery/process"
	"cannery/retort"
	"cannery/seam"
	"cannery/trace"
)

type cooking struct {
	product, lot  string
	pallet, cans  int
	initial, fill int
	faults        []api.Fault
}

func (c cooking) text() string {
	text := "cook " + c.product + " " + c.lot + numbers(c.pallet, c.cans, c.initial, c.fill)
	for _, f := range c.faults {
		text += " " + strconv.Itoa(f.From) + ":" + strconv.Itoa(f.To) + ":" + strconv.Itoa(f.Most)
	}
	return text
}

func (c cooking) do(s *state) {
	need(lethal.Name(c.product), api.ErrInvalid)
	need(trace.Lot(s.lots, c.lot) >= 0, api.ErrName)
	need(retort.ValidFaults(c.faults), api.ErrInvalid)
	schedule, program, record := c.run(s)
	s.move(api.Move{At: s.tick, Pallet: c.pallet, Kind: api.MIn, Where: c.lot, Cans: c.cans})
	verdict, e := process.Judge(schedule, program, record, c.initial, c.fill, s.Can, s.Killer, s.Spoiler)
	check(e)
	number := len(s.loads) + 1
	entry := api.Entry{
		Number:  number,
		Product: c.product,
		Lot:     c.lot,
		Code:    c.product + "-" + strconv.Itoa(number),
		Verdict: verdict,
		Reached: c.reached(s, record),
	}
	s.loads = added(s.loads, load{entry, c.pallet, s.tick, record})
	if verdict == api.VDestroyed {
		s.move(api.Move{At: s.tick, Pallet: c.pallet, Kind: api.MDestroy})
	}
}

// run cooks the load by its schedule.
func (c cooking) run(s *state) (api.Schedule, []api.Step, []api.Reading) {
	which, e := process.Lookup(s.Schedules, c.product, c.initial, c.fill)
	check(e)
	schedule := s.Schedules[which]
	program, e := process.Program(schedule, s.Vent, s.VentTicks, s.Cold, s.Cooling)
	check(e)
	begun, e := retort.Begin(s.Cold)
	check(e)
	_, record, e := retort.Run(s.Vessel, program, c.faults, begun)
	check(e)
	return schedule, program, record
}

// reached returns how much of what the killer needs a record shows.
func (c cooking) reached(s *state, record []api.Reading) int {
	baths := retort.Baths(record)
	for i, bath := range baths {
		// A can is followed only in baths of this range.
		baths[i] = min(max(bath, api.MinTemp), api.MaxTemp)
	}
	_, f, e := process.Lethality(s.Can, s.Killer, c.initial, baths)
	check(e)
	reached, e := lethal.Reached(s.Killer, f)
	check(e)
	return reached
}

// latest returns the last entry; there must be one.
func (s state) latest() api.Entry { return s.loads[len(s.loads)-1].Entry }

type judging struct{ number int }

func (c judging) text() string { return "judge" + numbers(c.number) }

func (c judging) do(s *state) {
	x, e := s.load(c.number)
	check(e)
	p, there := s.pallet(x.pallet)
	need(x.Verdict == api.VReleased && there && p.Where == "" && p.Held, api.ErrState)
	safe, e := seam.Safe(s.Norm, s.sheets, s.Heads, x.at)
	check(e)
	need(safe && !s.recalled[x.Lot], api.ErrHeld)
	s.move(api.Move{At: s.tick, Pallet: x.pallet, Kind: api.MFree})
}
