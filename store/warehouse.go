package store

import (
	"cmp"
	"maps"
	"slices"

	"cannery/api"
)

// warehouse is what moves have made of it.
type warehouse struct {
	life      int
	moves     int                     // how many there were
	now       int                     // the tick of the last one
	pallets   map[int]*api.Pallet     // those that are there
	ever      map[int]bool            // the numbers of all that ever were there
	accounts  map[string]*api.Account // of the lots, without the cans that are there
	customers map[string]bool         // all that pallets were ever shipped to
}

// open reads a ledger that is looked at with some ticks.
func open(life int, l []api.Move, ticks ...int) (*warehouse, error) {
	if len(l) > mostMoves {
		return nil, refusal(api.ErrLimit)
	}
	if !within(life, 1, mostLife) || slices.ContainsFunc(ticks, noTick) {
		return nil, refusal(api.ErrRange)
	}
	w := &warehouse{
		life:      life,
		pallets:   make(map[int]*api.Pallet),
		ever:      make(map[int]bool),
		accounts:  make(map[string]*api.Account),
		customers: make(map[string]bool),
	}
	return w, w.read(l)
}

func noTick(t int) bool { return !within(t, 0, api.MaxTick) }

// openFor reads a ledger that is looked at with a list of names or numbers.
func openFor[T comparable](list []T, life int, l []api.Move, ticks ...int) (*warehouse, error) {
	w, err := open(life, l, ticks...)
	if err != nil {
		return nil, err
	}
	return w, checkList(list)
}

func checkList[T comparable](list []T) error {
	seen := make(map[T]bool)
	for _, x := range list {
		if seen[x] {
			return refusal(api.ErrDuplicate)
		}
		seen[x] = true
	}
	if len(list) > mostListed {
		return refusal(api.ErrLimit)
	}
	return nil
}

// read does moves until one fails.
func (w *warehouse) read(l []api.Move) error {
	for i, m := range l {
		if e := w.take(m); e != api.OK {
			return failure{i, refusal(e)}
		}
	}
	return nil
}

// take does a move. If it fails it changes nothing.
func (w *warehouse) take(m api.Move) api.Errno {
	if w.moves == mostMoves {
		return api.ErrLimit
	}
	k, ok := kindOf(m.Kind)
	switch {
	case !ok || noTick(m.At) || !within(m.Pallet, 1, mostPallet):
		return api.ErrRange
	case m.At < w.now:
		return api.ErrOrder
	case !k.form().fits(m):
		return api.ErrInvalid
	}
	if e := k.do(w, m); e != api.OK {
		return e
	}
	w.moves++
	w.now = m.At
	return api.OK
}

// extended returns a ledger that was read with more moves behind it.
func (w *warehouse) extended(l, more []api.Move) ([]api.Move, api.Errno) {
	if err := w.read(more); err != nil {
		return nil, errnoOf(err)
	}
	return slices.Concat(l, more), api.OK
}

// account returns a lot's account, a new one if there was none.
func (w *warehouse) account(lot string) *api.Account {
	if w.accounts[lot] == nil {
		w.accounts[lot] = new(api.Account)
	}
	return w.accounts[lot]
}

// those returns the pallets that fit, in ascending order of their numbers.
func (w *warehouse) those(fits func(p *api.Pallet) bool) []api.Pallet {
	var list []api.Pallet
	for _, number := range sortedKeys(w.pallets) {
		if p := w.pallets[number]; fits(p) {
			list = append(list, *p)
		}
	}
	return list
}

func onHand(p *api.Pallet) bool { return p.Where == "" }

// sortedKeys returns the names or numbers of a map in ascending order.
func sortedKeys[K cmp.Ordered, V any](m map[K]V) []K { return slices.Sorted(maps.Keys(m)) }

func setOf(names []string) map[string]bool {
	set := make(map[string]bool)
	for _, name := range names {
		set[name] = true
	}
	return set
}

func numbersOf(l []api.Pallet) []int {
	var numbers []int
	for _, p := range l {
		numbers = append(numbers, p.Number)
	}
	return numbers
}
