package process

import (
	"cannery/api"
	"cannery/lethal"
)

// ValidSchedules reports whether some schedules are valid.
func ValidSchedules(l []api.Schedule) bool {
	if len(l) > mostSchedules {
		return false
	}
	for _, s := range l {
		if !validSchedule(s) {
			return false
		}
	}
	return true
}

func validSchedule(s api.Schedule) bool {
	return lethal.Name(s.Product) &&
		temperatures(s.Initial) &&
		within(s.Temp, 0, api.MaxTemp) &&
		within(s.Ticks, 1, api.MaxRun) &&
		within(s.Fill, 1, mostFill)
}

// fits reports whether a schedule allows an initial temperature and a fill.
func fits(s api.Schedule, initial, fill int) bool {
	return s.Initial <= initial && fill <= s.Fill
}

// Lookup returns the index of the first of the shortest schedules that fit.
func Lookup(l []api.Schedule, product string, initial, fill int) (int, api.Errno) {
	if !ValidSchedules(l) {
		return 0, api.ErrInvalid
	}
	if !temperatures(initial) || !within(fill, 0, mostFill) {
		return 0, api.ErrRange
	}
	found, e := 0, api.ErrName
	for i, s := range l {
		if s.Product != product {
			continue
		}
		if e == api.ErrName {
			e = api.ErrNone
		}
		if fits(s, initial, fill) && (e != api.OK || s.Ticks < l[found].Ticks) {
			found, e = i, api.OK
		}
	}
	return found, e
}

// Program returns the program of a schedule.
func Program(s api.Schedule, vent, venting, cold, cooling int) ([]api.Step, api.Errno) {
	if !validSchedule(s) {
		return nil, api.ErrInvalid
	}
	if !within(vent, 0, api.MaxTemp) || !within(cold, 0, api.MaxTemp) || !ticks(venting, cooling) || cooling == 0 {
		return nil, api.ErrRange
	}
	return []api.Step{
		{Kind: api.KVent, Set: vent, Ticks: venting},
		{Kind: api.KUp, Set: s.Temp},
		{Kind: api.KCook, Set: s.Temp, Ticks: s.Ticks},
		{Kind: api.KCool, Set: cold, Ticks: cooling},
	}, api.OK
}
