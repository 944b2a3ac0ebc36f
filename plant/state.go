package plant

import (
	"maps"
	"slices"

	"cannery/api"
	"cannery/store"
	"cannery/trace"
)

// state is all that a plant has. Its lists and its map are never changed, only replaced: so a copy of it stays as it is.
type state struct {
	Setup
	stock
	tick     int
	sheets   []api.Sheet
	lots     []api.Lot
	uses     []api.Use
	recalled map[string]bool
	loads    []load
	lines    []api.Line
}

// load is an entry with what else must be known of its load.
type load struct {
	api.Entry
	pallet int
	at     int // the tick at which it was cooked
	record []api.Reading
}

// stock is what is in the warehouse: a ledger.
type stock struct {
	life  int
	moves []api.Move
}

// added returns a list with one item more, in memory of its own.
func added[T any](l []T, x T) []T { return append(slices.Clip(l), x) }

// entries returns the entries of all loads, in new memory.
func (s state) entries() []api.Entry {
	var list []api.Entry
	for _, x := range s.loads {
		list = append(list, x.Entry)
	}
	return list
}

// load returns the load of an entry.
func (s state) load(number int) (load, api.Errno) {
	if !within(number, 1, len(s.loads)) {
		return load{}, api.ErrName
	}
	return s.loads[number-1], api.OK
}

// holding returns the lots that may hold a lot.
func (s state) holding(lot string) ([]string, api.Errno) { return trace.Forward(s.lots, s.uses, lot) }

// recall makes lots recalled.
func (s *state) recall(lots []string) {
	recalled := make(map[string]bool)
	maps.Copy(recalled, s.recalled)
	for _, lot := range lots {
		recalled[lot] = true
	}
	s.recalled = recalled
}

// pallet returns a pallet, and whether it is there.
func (s stock) pallet(number int) (api.Pallet, bool) {
	p, e := store.Pallet(s.life, s.moves, number)
	return p, e == api.OK
}

// move makes a move.
func (s *stock) move(m api.Move) {
	moves, e := store.Add(s.life, s.moves, m)
	check(e)
	s.moves = moves
}

// hold makes all pallets of some lots that are on hand held.
func (s *stock) hold(lots []string, at int) {
	moves, e := store.HoldAll(s.life, s.moves, lots, at)
	check(e)
	s.moves = moves
}
