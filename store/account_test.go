package store_test

import (
	"slices"
	"testing"

	"cannery/api"
	"cannery/store"
)

// 9.2: the example of the chapter.
func TestAccountOfTheExample(t *testing.T) {
	l := []api.Move{in(0, 1, "a", 100), sample(1, 1, 5), free(2, 1), ship(3, 1, "joe")}
	for n, want := range []api.Account{
		{},
		{Made: 100, OnHand: 100},
		{Made: 100, OnHand: 95, Samples: 5},
		{Made: 100, OnHand: 95, Samples: 5},
		{Made: 100, Shipped: 95, Samples: 5},
	} {
		if a, e := store.Account(life, l[:n], "a"); a != want || e != api.OK {
			t.Errorf("Account of %v = %v, %d", l[:n], a, e)
		}
	}
}

// 9.2
func TestAccount(t *testing.T) {
	for lot, want := range map[string]api.Account{
		"peas":                             {Made: 340, OnHand: 200, Shipped: 134, Samples: 6},
		"beans":                            {Made: 50, Destroyed: 50},
		"corn":                             {Made: 109, OnHand: 79, Shipped: 30},
		"joe":                              {},
		"":                                 {},
		"Peas":                             {},
		"no name of a lot, and a long one": {},
	} {
		if a, e := store.Account(life, autumn(), lot); a != want || e != api.OK {
			t.Errorf("Account(%q) = %v, %d", lot, a, e)
		}
	}
	// Samples that were taken from what was destroyed later are samples.
	l := []api.Move{in(0, 1, "a", 10), sample(0, 1, 3), sample(500, 1, 6), destroy(600, 1)}
	if a, e := store.Account(life, l, "a"); a != (api.Account{Made: 10, Destroyed: 1, Samples: 9}) || e != api.OK {
		t.Errorf("Account = %v, %d", a, e)
	}
	// What is held or has expired is on hand.
	l = []api.Move{in(0, 1, "a", 10), in(0, 2, "a", 20), free(0, 2), hold(900, 2)}
	if a, e := store.Account(life, l, "a"); a != (api.Account{Made: 30, OnHand: 30}) || e != api.OK {
		t.Errorf("Account = %v, %d", a, e)
	}
	// The most that there can be.
	l = nil
	for i := range 500 {
		l = append(l, in(0, i+1, "a", 1000000))
	}
	if a, e := store.Account(life, l, "a"); a != (api.Account{Made: 500000000, OnHand: 500000000}) || e != api.OK {
		t.Errorf("Account = %v, %d", a, e)
	}
}

// accountOf adds up a lot's moves.
func accountOf(l []api.Move, lot string) api.Account {
	var a api.Account
	for i, m := range l {
		f := fateOf(life, l[:i], m.Pallet) // before the move
		switch {
		case m.Kind == api.MIn && m.Where == lot:
			a.Made += m.Cans
		case f.lot != lot || !f.came:
		case m.Kind == api.MSample:
			a.Samples += m.Cans
		case m.Kind == api.MDestroy:
			a.Destroyed += f.cans
		}
	}
	for _, number := range came(l) {
		f := fateOf(life, l, number)
		if f.lot == lot && f.onHand() {
			a.OnHand += f.cans
		} else if f.lot == lot && f.there() {
			a.Shipped += f.cans
		}
	}
	return a
}

// 9.2, P9.2, P10: after every move each account balances, and together they have all cans that came in.
func TestBalance(t *testing.T) {
	for seed := range 80 {
		l := some(70, seed)
		all := 0
		for n := range len(l) + 1 {
			if n > 0 && l[n-1].Kind == api.MIn {
				all += l[n-1].Cans
			}
			lots, e := store.Lots(life, l[:n])
			if e != api.OK {
				t.Fatalf("Lots = %d", e)
			}
			made, kept := 0, 0
			for _, lot := range lots {
				a, e := store.Account(life, l[:n], lot)
				if a != accountOf(l[:n], lot) || e != api.OK {
					t.Errorf("Account(%s) of %s = %v, %d", lot, told(l[:n]), a, e)
				}
				if a.Made != a.OnHand+a.Shipped+a.Destroyed+a.Samples {
					t.Errorf("Account(%s) of %s = %v does not balance", lot, told(l[:n]), a)
				}
				made += a.Made
				kept += a.OnHand + a.Shipped + a.Destroyed + a.Samples
			}
			if made != all || kept != all {
				t.Errorf("%d made and %d kept of %d in %s", made, kept, all, told(l[:n]))
			}
		}
	}
}

// names returns the names that moves of a kind have, in ascending order.
func names(l []api.Move, kind int) []string {
	var list []string
	for _, m := range l {
		if m.Kind == kind && !slices.Contains(list, m.Where) {
			list = append(list, m.Where)
		}
	}
	slices.Sort(list)
	return list
}

// 9.2: also lots of which nothing is left, and customers that have nothing.
func TestLotsAndCustomers(t *testing.T) {
	if l, e := store.Lots(life, autumn()); !slices.Equal(l, []string{"beans", "corn", "peas"}) || e != api.OK {
		t.Errorf("Lots = %v, %d", l, e)
	}
	if l, e := store.Customers(life, autumn()); !slices.Equal(l, []string{"ann", "joe", "zoe"}) || e != api.OK {
		t.Errorf("Customers = %v, %d", l, e)
	}
	for _, l := range goodLedgers() {
		if got, e := store.Lots(life, l); !slices.Equal(got, names(l, api.MIn)) || e != api.OK {
			t.Errorf("Lots of %s = %v, %d", told(l), got, e)
		}
		if got, e := store.Customers(life, l); !slices.Equal(got, names(l, api.MShip)) || e != api.OK {
			t.Errorf("Customers of %s = %v, %d", told(l), got, e)
		}
	}
	// Bytewise, and a name may be of a lot and of a customer.
	l := []api.Move{in(0, 1, "b", 1), in(0, 2, "a_", 1), in(0, 3, "a", 1), in(0, 4, "a1", 1), in(0, 5, "aa", 1)}
	for i, name := range []string{"aa", "b", "a1", "a", "a_"} {
		l = append(l, free(1, i+1), ship(1, i+1, name))
	}
	want := []string{"a", "a1", "a_", "aa", "b"}
	lots, _ := store.Lots(life, l)
	customers, _ := store.Customers(life, l)
	if !slices.Equal(lots, want) || !slices.Equal(customers, want) {
		t.Errorf("Lots = %v, Customers = %v", lots, customers)
	}
}
