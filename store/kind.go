package store

import (
	"cannery/api"
	"cannery/lethal"
)

// kind is a kind of moves.
type kind interface {
	form() form
	// do does a move of this form. If it fails it changes nothing.
	do(w *warehouse, m api.Move) api.Errno
}

// form is how the moves of a kind are written: their word, and whether they use Where and Cans.
type form struct {
	word        string
	where, cans bool
}

// fits reports whether a move uses Where and Cans as it should.
func (f form) fits(m api.Move) bool {
	where, cans := m.Where == "", m.Cans == 0
	if f.where {
		where = lethal.Name(m.Where)
	}
	if f.cans {
		cans = within(m.Cans, 1, mostCans)
	}
	return where && cans
}

// kinds returns the kinds by their numbers. There is none with the number 0.
func kinds() [api.MSample + 1]kind {
	return [...]kind{
		api.MIn:      coming{},
		api.MHold:    holding{},
		api.MFree:    freeing{},
		api.MShip:    shipping{},
		api.MBack:    returning{},
		api.MDestroy: destroying{},
		api.MSample:  sampling{},
	}
}

func kindOf(number int) (kind, bool) {
	if !within(number, api.MIn, api.MSample) {
		return nil, false
	}
	return kinds()[number], true
}

type (
	coming     struct{}
	holding    struct{}
	freeing    struct{}
	shipping   struct{}
	returning  struct{}
	destroying struct{}
	sampling   struct{}
)

func (coming) form() form     { return form{word: "in", where: true, cans: true} }
func (holding) form() form    { return form{word: "hold"} }
func (freeing) form() form    { return form{word: "free"} }
func (shipping) form() form   { return form{word: "ship", where: true} }
func (returning) form() form  { return form{word: "back"} }
func (destroying) form() form { return form{word: "destroy"} }
func (sampling) form() form   { return form{word: "sample", cans: true} }

func (coming) do(w *warehouse, m api.Move) api.Errno {
	switch {
	case w.ever[m.Pallet]:
		return api.ErrDuplicate
	case len(w.ever) == api.MaxPallets:
		return api.ErrLimit
	}
	w.ever[m.Pallet] = true
	w.account(m.Where).Made += m.Cans
	w.pallets[m.Pallet] = &api.Pallet{
		Number:  m.Pallet,
		Lot:     m.Where,
		Cans:    m.Cans,
		Expires: m.At + w.life,
		Held:    true,
	}
	return api.OK
}

// toMove returns a pallet for a move that only a pallet on hand can have.
func (w *warehouse) toMove(number int) (*api.Pallet, api.Errno) {
	p := w.pallets[number]
	switch {
	case p == nil:
		return nil, api.ErrName
	case !onHand(p):
		return nil, api.ErrState
	}
	return p, api.OK
}

func (holding) do(w *warehouse, m api.Move) api.Errno {
	p, e := w.toMove(m.Pallet)
	switch {
	case e != api.OK:
		return e
	case p.Held:
		return api.ErrState
	}
	p.Held = true
	return api.OK
}

func (freeing) do(w *warehouse, m api.Move) api.Errno {
	p, e := w.toMove(m.Pallet)
	switch {
	case e != api.OK:
		return e
	case !p.Held:
		return api.ErrState
	}
	p.Held = false
	return api.OK
}

func (shipping) do(w *warehouse, m api.Move) api.Errno {
	p, e := w.toMove(m.Pallet)
	switch {
	case e != api.OK:
		return e
	case p.Held:
		return api.ErrHeld
	case m.At >= p.Expires:
		return api.ErrState
	}
	p.Where = m.Where
	w.customers[m.Where] = true
	return api.OK
}

func (returning) do(w *warehouse, m api.Move) api.Errno {
	p := w.pallets[m.Pallet]
	switch {
	case p == nil:
		return api.ErrName
	case onHand(p):
		return api.ErrState
	}
	p.Where = ""
	p.Held = true
	return api.OK
}

func (destroying) do(w *warehouse, m api.Move) api.Errno {
	p, e := w.toMove(m.Pallet)
	if e != api.OK {
		return e
	}
	w.account(p.Lot).Destroyed += p.Cans
	delete(w.pallets, p.Number)
	return api.OK
}

func (sampling) do(w *warehouse, m api.Move) api.Errno {
	p, e := w.toMove(m.Pallet)
	switch {
	case e != api.OK:
		return e
	case p.Cans <= m.Cans:
		return api.ErrRange
	}
	p.Cans -= m.Cans
	w.account(p.Lot).Samples += m.Cans
	return api.OK
}
