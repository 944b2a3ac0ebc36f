package retort

import "cannery/api"

// Marks returns the bath of each reading whose number is a multiple of every, and of the last one.
func Marks(r []api.Reading, every int) ([]int, api.Errno) {
	if e := checkMarks(r, every); e != api.OK {
		return nil, e
	}
	var list []int
	for i, x := range r {
		if marked(r, every, i) {
			list = append(list, x.Bath)
		}
	}
	return list, api.OK
}

// Credit returns for each reading the bath that the marks alone surely show, if between two marks it was never below the lesser one.
func Credit(r []api.Reading, every int) ([]int, api.Errno) {
	if e := checkMarks(r, every); e != api.OK {
		return nil, e
	}
	list := Baths(r)
	for i := range list {
		if !marked(r, every, i) {
			mark := i - i%every
			next := min(mark+every, len(r)-1)
			list[i] = min(r[mark].Bath, r[next].Bath)
		}
	}
	return list, api.OK
}

func checkMarks(r []api.Reading, every int) api.Errno {
	if len(r) > api.MaxRun {
		return api.ErrLimit
	}
	if !within(every, 1, api.MaxRun) {
		return api.ErrRange
	}
	return api.OK
}

// marked reports whether there is a mark at a reading.
func marked(r []api.Reading, every, i int) bool {
	return i%every == 0 || i == len(r)-1
}
