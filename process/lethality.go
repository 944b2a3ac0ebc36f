package process

import (
	"slices"

	"cannery/api"
	"cannery/heat"
	"cannery/lethal"
	"cannery/retort"
)

// Places returns the lethality of each place of a can.
func Places(c api.Can, k api.Killer, initial int, baths []int) ([]int, api.Errno) {
	if e := check(c, k, initial, baths); e != api.OK {
		return nil, e
	}
	m := meterDown(c, k, slices.Concat([]int{initial}, baths))
	return m.run(initial, baths).sums, api.OK
}

// Lethality returns the slowest place of a can, and its lethality.
func Lethality(c api.Can, k api.Killer, initial int, baths []int) (place, f int, e api.Errno) {
	l, e := Places(c, k, initial, baths)
	if e != api.OK {
		return 0, 0, e
	}
	f = slices.Min(l)
	return slices.Index(l, f), f, api.OK
}

// ByColdest returns the sum of the rates of the coldest temperature of each tick.
func ByColdest(c api.Can, k api.Killer, initial int, baths []int) (int, api.Errno) {
	if e := check(c, k, initial, baths); e != api.OK {
		return 0, e
	}
	body, _ := heat.Even(c, initial)
	cold, _ := heat.Cold(c, body, baths)
	return lethal.Sum(k, cold)
}

// Spoiled returns the greatest sum of the rates up over all places of a can.
func Spoiled(c api.Can, k api.Killer, initial int, baths []int) (int, api.Errno) {
	if e := check(c, k, initial, baths); e != api.OK {
		return 0, e
	}
	return slices.Max(meterUp(c, k).run(initial, baths).sums), api.OK
}

// Sterile reports whether a can has the lethality that its killer needs.
func Sterile(c api.Can, k api.Killer, initial int, baths []int) (bool, api.Errno) {
	_, f, e := Lethality(c, k, initial, baths)
	return e == api.OK && f >= lethal.Needs(k), e
}

// Credited returns the lethality that the marks of a record show.
func Credited(c api.Can, k api.Killer, initial int, r []api.Reading, every int) (int, api.Errno) {
	if e := check(c, k, initial, nil); e != api.OK {
		return 0, e
	}
	credit, e := retort.Credit(r, every)
	if e != api.OK {
		return 0, e
	}
	_, f, e := Lethality(c, k, initial, cut(credit))
	return f, e
}

// cut returns some baths, each brought into the range of temperatures.
func cut(baths []int) []int {
	list := make([]int, 0, len(baths))
	for _, bath := range baths {
		list = append(list, min(max(bath, api.MinTemp), api.MaxTemp))
	}
	return list
}
