package queue

import (
	"slices"

	"cannery/api"
	"cannery/heat"
)

// Cooled returns the coldest temperature of a can that was even at t and stood for some ticks in a room.
func Cooled(c api.Can, t, room, ticks int) (int, api.Errno) {
	if !heat.ValidCan(c) {
		return 0, api.ErrInvalid
	}
	if !isTemperature(t) || !isTemperature(room) || !within(ticks, 0, api.MaxRun) {
		return 0, api.ErrRange
	}
	return cooling(c, t, room, ticks)[ticks], api.OK
}

// Initials returns for each basket the coldest temperature of a can that was even at t when the basket came and stood in a room until it started.
func Initials(c api.Can, t, room int, l []api.Basket, x []api.Start) ([]int, api.Errno) {
	if !heat.ValidCan(c) || !validFor(l, x) {
		return nil, api.ErrInvalid
	}
	if !isTemperature(t) || !isTemperature(room) {
		return nil, api.ErrRange
	}
	list := waits(l, x)
	longest := 0
	for i, wait := range list {
		list[i] = min(max(wait, 0), api.MaxRun)
		longest = max(longest, list[i])
	}
	temps := cooling(c, t, room, longest)
	for i, wait := range list {
		list[i] = temps[wait]
	}
	return list, api.OK
}

func isTemperature(t int) bool { return within(t, api.MinTemp, api.MaxTemp) }

// cooling returns the coldest temperature of a can that was even at t, and that after each tick in a room.
func cooling(c api.Can, t, room, ticks int) []int {
	x, _ := heat.Even(c, t)
	after, _ := heat.Cold(c, x, slices.Repeat([]int{room}, ticks))
	return slices.Insert(after, 0, t)
}
