package store

import "cannery/api"

// Expired returns the pallets on hand that expire at a tick or before it.
func Expired(life int, l []api.Move, at int) ([]int, api.Errno) {
	w, err := open(life, l, at)
	if err != nil {
		return nil, errnoOf(err)
	}
	return numbersOf(w.those(func(p *api.Pallet) bool { return onHand(p) && p.Expires <= at })), api.OK
}

// Where returns the customers that have pallets of some lots, and how many cans each has of these lots.
func Where(life int, l []api.Move, lots []string) ([]string, []int, api.Errno) {
	w, err := openFor(lots, life, l)
	if err != nil {
		return nil, nil, errnoOf(err)
	}
	has := make(map[string]int)
	for _, p := range w.out(lots) {
		has[p.Where] += p.Cans
	}
	customers := sortedKeys(has)
	var cans []int
	for _, customer := range customers {
		cans = append(cans, has[customer])
	}
	return customers, cans, api.OK
}

// out returns the pallets of some lots that customers have.
func (w *warehouse) out(lots []string) []api.Pallet {
	asked := setOf(lots)
	return w.those(func(p *api.Pallet) bool { return asked[p.Lot] && !onHand(p) })
}

// Found returns how many cans of some lots were out before a tick, and how many of these came back from it on.
func Found(life int, l []api.Move, lots []string, from int) (shipped, back int, e api.Errno) {
	if _, err := openFor(lots, life, l, from); err != nil {
		return 0, 0, errnoOf(err)
	}
	early := Before(l, from)
	// It is valid, as each beginning of a valid ledger is.
	w, _ := open(life, early)
	missing := make(map[int]int) // the cans of the pallets that are not back yet
	for _, p := range w.out(lots) {
		missing[p.Number] = p.Cans
		shipped += p.Cans
	}
	for _, m := range l[len(early):] {
		if m.Kind == api.MBack {
			back += missing[m.Pallet]
			delete(missing, m.Pallet)
		}
	}
	return shipped, back, api.OK
}

// History returns the indexes of a pallet's moves.
func History(life int, l []api.Move, number int) ([]int, api.Errno) {
	w, err := open(life, l)
	if err != nil {
		return nil, errnoOf(err)
	}
	if !w.ever[number] {
		return nil, api.ErrName
	}
	var indexes []int
	for i, m := range l {
		if m.Pallet == number {
			indexes = append(indexes, i)
		}
	}
	return indexes, api.OK
}
