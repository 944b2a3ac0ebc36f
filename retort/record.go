package retort

import (
	"slices"
	"sort"

	"cannery/api"
)

// ValidRecord reports whether a record is valid for a valid program.
func ValidRecord(p []api.Step, r []api.Reading) bool {
	if !ValidProgram(p) || len(r) > api.MaxRun {
		return false
	}
	least, most := 0, 0 // what the next reading's Step may be
	for _, x := range r {
		if !within(x.Step, least, most) || !validReading(x) {
			return false
		}
		least, most = x.Step, min(x.Step+1, len(p)-1)
	}
	return true
}

func validReading(x api.Reading) bool {
	return within(x.Temp, -mostRead, mostRead) &&
		within(x.Chart, -mostRead, mostRead) &&
		within(x.Bath, -mostRead, mostRead)
}

// Whole reports whether a record is valid, and has a reading of every step.
func Whole(p []api.Step, r []api.Reading) bool {
	// A record passes over no step, so that only the last one has to be looked for.
	return ValidRecord(p, r) && len(r) > 0 && r[len(r)-1].Step == len(p)-1
}

// Part returns the readings of a step: the index of the first one, and that behind the last one.
func Part(p []api.Step, r []api.Reading, step int) (from, to int, e api.Errno) {
	if !ValidRecord(p, r) {
		return 0, 0, api.ErrInvalid
	}
	if !within(step, 0, len(p)-1) {
		return 0, 0, api.ErrRange
	}
	from, to = before(r, step), before(r, step+1)
	if from == to {
		return 0, 0, api.ErrNone
	}
	return from, to, api.OK
}

// before returns how many readings of a valid record are of earlier steps.
func before(r []api.Reading, step int) int {
	return sort.Search(len(r), func(i int) bool { return r[i].Step >= step })
}

// Vented reports whether a record shows all the venting that the program asks for.
func Vented(p []api.Step, r []api.Reading) (bool, api.Errno) {
	if !ValidRecord(p, r) {
		return false, api.ErrInvalid
	}
	for step, s := range p {
		if s.Kind == api.KVent && !vented(s, r[before(r, step):before(r, step+1)]) {
			return false, api.OK
		}
	}
	return true, api.OK
}

// vented reports whether the readings of a step KVent are enough of it.
func vented(s api.Step, r []api.Reading) bool {
	return len(r) > 0 && len(r) >= s.Ticks && r[len(r)-1].Temp >= s.Set
}

// Cooked returns in how many readings of steps KCook the vessel had at least the temperature t.
func Cooked(p []api.Step, r []api.Reading, t int) (int, api.Errno) {
	if !ValidRecord(p, r) {
		return 0, api.ErrInvalid
	}
	n := 0
	for _, x := range r {
		if p[x.Step].Kind == api.KCook && x.Temp >= t {
			n++
		}
	}
	return n, api.OK
}

// Deviations returns the longest stretches of a step KCook that were too cold.
func Deviations(p []api.Step, r []api.Reading) ([]api.Deviation, api.Errno) {
	if !ValidRecord(p, r) {
		return nil, api.ErrInvalid
	}
	var list []api.Deviation
	for i, x := range r {
		s := p[x.Step]
		if s.Kind != api.KCook || x.Temp >= s.Set {
			continue
		}
		last := len(list) - 1
		if last >= 0 && list[last].To == i && r[i-1].Step == x.Step {
			list[last].To++
			list[last].Least = min(list[last].Least, x.Temp)
			continue
		}
		list = append(list, api.Deviation{From: i, To: i + 1, Least: x.Temp})
	}
	return list, api.OK
}

// Baths returns the bath of each reading.
func Baths(r []api.Reading) []int {
	list := make([]int, 0, len(r))
	for _, x := range r {
		list = append(list, x.Bath)
	}
	return list
}

// High returns the index of the first reading whose chart is above the thermometer, -1 if there is none.
func High(r []api.Reading) int {
	return slices.IndexFunc(r, func(x api.Reading) bool { return x.Chart > x.Temp })
}

// Same reports whether two records are equal.
func Same(a, b []api.Reading) bool { return slices.Equal(a, b) }
