package store

import (
	"cmp"
	"slices"

	"cannery/api"
)

// Pick returns pallets of some lots for an order of cans: first those that expire first.
func Pick(life int, l []api.Move, lots []string, cans, at int) ([]int, api.Errno) {
	w, err := openFor(lots, life, l, at)
	if err != nil {
		return nil, errnoOf(err)
	}
	if !within(cans, 1, mostOrder) {
		return nil, api.ErrRange
	}
	asked := setOf(lots)
	ready := w.those(func(p *api.Pallet) bool { return asked[p.Lot] && onHand(p) && !p.Held && at < p.Expires })
	// They stand by their numbers already.
	slices.SortStableFunc(ready, func(p, q api.Pallet) int { return cmp.Compare(p.Expires, q.Expires) })
	for i, p := range ready {
		cans -= p.Cans
		if cans <= 0 {
			return numbersOf(ready[:i+1]), api.OK
		}
	}
	return nil, api.ErrNone
}

// Ship returns a ledger in which pallets go to a customer, one after the other.
func Ship(life int, l []api.Move, numbers []int, customer string, at int) ([]api.Move, api.Errno) {
	w, err := openFor(numbers, life, l, at)
	if err != nil {
		return nil, errnoOf(err)
	}
	return w.extended(l, repeated(api.Move{At: at, Kind: api.MShip, Where: customer}, numbers))
}

// HoldAll returns a ledger in which all pallets of some lots that are on hand are held.
func HoldAll(life int, l []api.Move, lots []string, at int) ([]api.Move, api.Errno) {
	return moveAll(life, l, lots, api.Move{At: at, Kind: api.MHold}, false)
}

// FreeAll returns a ledger in which no pallets of some lots that are on hand are held.
func FreeAll(life int, l []api.Move, lots []string, at int) ([]api.Move, api.Errno) {
	return moveAll(life, l, lots, api.Move{At: at, Kind: api.MFree}, true)
}

// moveAll returns a ledger with a move for each pallet of some lots that is on hand, and that is held or is not.
func moveAll(life int, l []api.Move, lots []string, m api.Move, held bool) ([]api.Move, api.Errno) {
	w, err := openFor(lots, life, l, m.At)
	if err != nil {
		return nil, errnoOf(err)
	}
	asked := setOf(lots)
	which := w.those(func(p *api.Pallet) bool { return asked[p.Lot] && onHand(p) && p.Held == held })
	return w.extended(l, repeated(m, numbersOf(which)))
}

// repeated returns a move for each of some pallets.
func repeated(m api.Move, numbers []int) []api.Move {
	moves := make([]api.Move, 0, len(numbers))
	for _, number := range numbers {
		m.Pallet = number
		moves = append(moves, m)
	}
	return moves
}
