package store

import "cannery/api"

// Account returns what became of a lot's cans.
func Account(life int, l []api.Move, lot string) (api.Account, api.Errno) {
	w, err := open(life, l)
	if err != nil {
		return api.Account{}, errnoOf(err)
	}
	a := *w.account(lot)
	for _, p := range w.pallets {
		switch {
		case p.Lot == lot && onHand(p):
			a.OnHand += p.Cans
		case p.Lot == lot:
			a.Shipped += p.Cans
		}
	}
	return a, api.OK
}

// Lots returns the names of all lots of which something came in.
func Lots(life int, l []api.Move) ([]string, api.Errno) {
	w, err := open(life, l)
	if err != nil {
		return nil, errnoOf(err)
	}
	return sortedKeys(w.accounts), api.OK
}

// Customers returns the names of all to whom something was ever shipped.
func Customers(life int, l []api.Move) ([]string, api.Errno) {
	w, err := open(life, l)
	if err != nil {
		return nil, errnoOf(err)
	}
	return sortedKeys(w.customers), api.OK
}
