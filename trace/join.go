package trace

import (
	"slices"

	"cannery/api"
)

// Joined returns two graphs as one.
func Joined(l []api.Lot, u []api.Use, m []api.Lot, v []api.Use) ([]api.Lot, []api.Use, api.Errno) {
	if e := Check(l, u); e != api.OK {
		return nil, nil, e
	}
	if e := Check(m, v); e != api.OK {
		return nil, nil, e
	}
	lots, lotsAgree := joined(l, m, nameOf)
	uses, usesAgree := joined(u, v, pairOf)
	if !lotsAgree || !usesAgree {
		return nil, nil, api.ErrState
	}
	if e := Check(lots, uses); e != api.OK {
		return nil, nil, e
	}
	return lots, uses, api.OK
}

// joined returns a list, and behind it what another has under other keys; not ok if they have something different under the same key.
func joined[T, K comparable](l, other []T, key func(T) K) ([]T, bool) {
	list := slices.Clone(l)
	known := make(map[K]T)
	for _, x := range l {
		known[key(x)] = x
	}
	for _, x := range other {
		same, ok := known[key(x)]
		if !ok {
			list = append(list, x)
		} else if same != x {
			return nil, false
		}
	}
	return list, true
}
