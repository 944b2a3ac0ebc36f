package retort

import (
	"cmp"
	"iter"

	"cannery/api"
)

// vessel is a vessel at work: what a load goes through in it.
type vessel struct {
	api.Vessel
	program []api.Step
	faults  []api.Fault
}

// Tick returns a load after a tick, and the reading of the tick.
func Tick(v api.Vessel, p []api.Step, l []api.Fault, x api.Load) (api.Load, api.Reading, api.Errno) {
	if !valid(v, p, l, x) {
		return api.Load{}, api.Reading{}, api.ErrInvalid
	}
	if x.Step == len(p) {
		return api.Load{}, api.Reading{}, api.ErrState
	}
	if x.Tick == api.MaxTick {
		return api.Load{}, api.Reading{}, api.ErrRange
	}
	next, r := vessel{v, p, l}.tick(x)
	return next, r, api.OK
}

// Run makes ticks until a load is done, and returns it with all readings.
func Run(v api.Vessel, p []api.Step, l []api.Fault, x api.Load) (api.Load, []api.Reading, api.Errno) {
	if !valid(v, p, l, x) {
		return api.Load{}, nil, api.ErrInvalid
	}
	var list []api.Reading
	for next, r := range (vessel{v, p, l}).ticks(x) {
		x = next
		list = append(list, r)
		if len(list) == api.MaxRun {
			break
		}
	}
	switch {
	case x.Step == len(p):
		return x, list, api.OK
	case x.Tick == api.MaxTick:
		return api.Load{}, nil, api.ErrRange
	}
	return api.Load{}, nil, api.ErrNone
}

func valid(v api.Vessel, p []api.Step, l []api.Fault, x api.Load) bool {
	return ValidVessel(v) && ValidFaults(l) && ValidLoad(p, x)
}

// ticks yields the load after each tick and the reading of the tick, as long as there is a tick to make.
func (v vessel) ticks(x api.Load) iter.Seq2[api.Load, api.Reading] {
	return func(yield func(api.Load, api.Reading) bool) {
		for now := x; now.Step < len(v.program) && now.Tick < api.MaxTick; {
			next, r := v.tick(now)
			if !yield(next, r) {
				return
			}
			now = next
		}
	}
}

// tick returns a load that is not done after a tick, and the reading of the tick.
func (v vessel) tick(x api.Load) (api.Load, api.Reading) {
	s := v.program[x.Step]
	x.Temp += v.change(v.aim(x) - x.Temp)
	if s.Kind == api.KVent {
		x.Air -= shareUp(x.Air, v.Venting)
	}
	r := api.Reading{
		Step:  x.Step,
		Temp:  x.Temp,
		Chart: x.Temp + v.Chart,
		Bath:  x.Temp - shareUp(v.Pocket, x.Air),
	}
	x.Tick++
	x.Gone++
	if kinds()[s.Kind].over(s, x) {
		x.Step++
		x.Gone = 0
	}
	return x, r
}

// aim returns what temperature the vessel goes to: faults keep it lower, but never make it higher.
func (v vessel) aim(x api.Load) int {
	aim := v.program[x.Step].Set
	for _, f := range v.faults {
		if f.From <= x.Tick && x.Tick < f.To {
			aim = min(aim, f.Most)
		}
	}
	return aim
}

// change returns how much of the way d to the aim is gone in a tick.
func (v vessel) change(d int) int {
	speed := v.Cooling
	if d > 0 {
		speed = v.Heating
	}
	if change := d * speed / perMille; change != 0 {
		return change
	}
	return cmp.Compare(d, 0) // so that the aim is reached
}

// shareUp returns a share of n (per mille), rounded up.
func shareUp(n, share int) int { return (n*share + perMille - 1) / perMille }
