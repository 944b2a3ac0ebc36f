package process

import (
	"cannery/api"
	"cannery/lethal"
	"cannery/retort"
)

// verdict is a verdict as api counts them.
type verdict int

const (
	silent verdict = iota // what a rule says that does not apply
	released
	held
	again
	destroyed
)

// Word returns the word of a verdict.
func Word(v int) string {
	switch verdict(v) {
	case released:
		return "released"
	case held:
		return "held"
	case again:
		return "again"
	case destroyed:
		return "destroyed"
	}
	return ""
}

// trial is what a load is judged by.
type trial struct {
	schedule        api.Schedule
	program         []api.Step
	record          []api.Reading
	baths           []int // of the record
	initial, fill   int
	can             api.Can
	killer, spoiler api.Killer
}

// Judge returns the verdict of a load.
func Judge(s api.Schedule, p []api.Step, r []api.Reading, initial, fill int, c api.Can, k, spoiler api.Killer) (int, api.Errno) {
	if !validSchedule(s) || !retort.ValidRecord(p, r) || !valid(c, k, spoiler) {
		return 0, api.ErrInvalid
	}
	if !temperatures(initial) || !within(fill, 0, mostFill) {
		return 0, api.ErrRange
	}
	x := trial{
		schedule: s, program: p, record: r, baths: cut(retort.Baths(r)),
		initial: initial, fill: fill, can: c, killer: k, spoiler: spoiler,
	}
	return int(x.verdict()), api.OK
}

// verdict is that of the first rule that speaks.
func (x trial) verdict() verdict {
	for _, rule := range [...]func() verdict{x.unproved, x.scheduled, x.sterile, x.unspoiled} {
		if v := rule(); v != silent {
			return v
		}
	}
	return destroyed
}

func (x trial) unproved() verdict {
	vented, _ := retort.Vented(x.program, x.record)
	if retort.Whole(x.program, x.record) && vented && retort.High(x.record) < 0 {
		return silent
	}
	return held
}

func (x trial) scheduled() verdict {
	deviations, _ := retort.Deviations(x.program, x.record)
	cooked, _ := retort.Cooked(x.program, x.record, x.schedule.Temp)
	if fits(x.schedule, x.initial, x.fill) && len(deviations) == 0 && cooked >= x.schedule.Ticks {
		return released
	}
	return silent
}

func (x trial) sterile() verdict {
	if ok, _ := Sterile(x.can, x.killer, x.initial, x.baths); ok {
		return released
	}
	return silent
}

func (x trial) unspoiled() verdict {
	spoiled, _ := Spoiled(x.can, x.spoiler, x.initial, x.baths)
	if spoiled < lethal.Needs(x.spoiler) {
		return again
	}
	return silent
}
