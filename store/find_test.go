package store_test

import (
	"math"
	"slices"
	"testing"

	"cannery/api"
	"cannery/store"
)

// 9.4: held pallets count as others do.
func TestExpired(t *testing.T) {
	for _, c := range []struct {
		at   int
		want []int
	}{
		{0, nil}, {102, nil}, {103, []int{2, 3}}, {110, []int{2, 3}}, {119, []int{2, 3}}, {120, []int{2, 3, 7}}, {100000000, []int{2, 3, 7}},
	} {
		if l, e := store.Expired(life, autumn(), c.at); !slices.Equal(l, c.want) || e != api.OK {
			t.Errorf("Expired(%d) = %v, %d", c.at, l, e)
		}
	}
	if l, e := store.Expired(1000000000, autumn(), 100000000); len(l) != 0 || e != api.OK {
		t.Errorf("Expired = %v, %d", l, e)
	}
	for seed := range 200 {
		l := some(50, seed)
		for _, at := range []int{0, 90, 100, 105, 110, 120, 1000} {
			want := those(life, l, func(f fate) bool { return f.onHand() && f.expires <= at })
			if got, e := store.Expired(life, l, at); !slices.Equal(got, want) || e != api.OK {
				t.Errorf("Expired(%d) of %s = %v, %d", at, told(l), got, e)
			}
		}
	}
}

// 9.4
func TestWhere(t *testing.T) {
	for _, c := range []struct {
		lots, customers []string
		cans            []int
	}{
		{nil, nil, nil},
		{[]string{"peas"}, []string{"ann", "joe"}, []int{39, 95}},
		{[]string{"corn"}, []string{"joe"}, []int{30}},
		{[]string{"peas", "corn"}, []string{"ann", "joe"}, []int{39, 125}},
		{[]string{"beans", "corn", "x", ""}, []string{"joe"}, []int{30}},
		{[]string{"beans"}, nil, nil},
		{[]string{"joe", "Peas"}, nil, nil},
	} {
		customers, cans, e := store.Where(life, autumn(), c.lots)
		if !slices.Equal(customers, c.customers) || !slices.Equal(cans, c.cans) || e != api.OK {
			t.Errorf("Where(%v) = %v, %v, %d", c.lots, customers, cans, e)
		}
	}
}

// 9.4
func TestWhereByItsSentence(t *testing.T) {
	for seed := range 400 {
		l := some(60, seed)
		lots := [][]string{{"a"}, {"b", "x"}, {"d", "c", "b", "a"}}[seed%3]
		var customers []string
		var cans []int
		for _, customer := range []string{"ann", "joe", "zoe"} {
			n := 0
			for _, number := range came(l) {
				if f := fateOf(life, l, number); f.there() && f.where == customer && slices.Contains(lots, f.lot) {
					n += f.cans
				}
			}
			if n > 0 {
				customers = append(customers, customer)
				cans = append(cans, n)
			}
		}
		gotCustomers, gotCans, e := store.Where(life, l, lots)
		if !slices.Equal(gotCustomers, customers) || !slices.Equal(gotCans, cans) || e != api.OK {
			t.Errorf("Where(%v) of %s = %v, %v, %d", lots, told(l), gotCustomers, gotCans, e)
		}
	}
}

// 9.4
func TestFound(t *testing.T) {
	twice := []api.Move{
		in(0, 1, "a", 10), free(0, 1), in(0, 2, "b", 100), free(0, 2),
		ship(5, 1, "joe"), ship(6, 2, "joe"), back(10, 1), free(11, 1), ship(12, 1, "ann"), back(15, 1), sample(16, 1, 3), free(17, 1), ship(18, 1, "joe"), back(20, 1), destroy(21, 1),
	}
	for _, c := range []struct {
		lots                []string
		from, shipped, back int
	}{
		{[]string{"a"}, 0, 0, 0},
		{[]string{"a"}, 5, 0, 0},
		{[]string{"a"}, 6, 10, 10}, // it comes back at 10, and again with less later
		{[]string{"a"}, 10, 10, 10},
		{[]string{"a"}, 11, 0, 0},
		{[]string{"a"}, 12, 0, 0},
		{[]string{"a"}, 13, 10, 10}, // shipped twice before
		{[]string{"a"}, 15, 10, 10},
		{[]string{"a"}, 16, 0, 0},
		{[]string{"a"}, 18, 0, 0},
		{[]string{"a"}, 19, 7, 7},
		{[]string{"a"}, 20, 7, 7},
		{[]string{"a"}, 21, 0, 0},
		{[]string{"a"}, 100000000, 0, 0},
		{[]string{"b"}, 6, 0, 0},
		{[]string{"b"}, 7, 100, 0},
		{[]string{"b"}, 100000000, 100, 0},
		{[]string{"b", "a"}, 7, 110, 10},
		{[]string{"b", "x", "a"}, 19, 107, 7},
		{[]string{"x"}, 7, 0, 0},
		{nil, 7, 0, 0},
	} {
		if shipped, back, e := store.Found(life, twice, c.lots, c.from); shipped != c.shipped || back != c.back || e != api.OK {
			t.Errorf("Found(%v, %d) = %d, %d, %d, not %d, %d", c.lots, c.from, shipped, back, e, c.shipped, c.back)
		}
	}
	// Moves at one tick are all before it or all from it on.
	once := []api.Move{in(5, 1, "a", 10), free(5, 1), ship(5, 1, "joe"), back(5, 1), free(5, 1), ship(5, 1, "joe")}
	for from, want := range map[int]int{0: 0, 5: 0, 6: 10} {
		if shipped, back, e := store.Found(life, once, []string{"a"}, from); shipped != want || back != 0 || e != api.OK {
			t.Errorf("Found(%d) = %d, %d, %d", from, shipped, back, e)
		}
	}
}

// 9.4, P9.6
func TestFoundByItsSentence(t *testing.T) {
	some1, some2 := 0, 0
	for seed := range 600 {
		l := some(70, seed)
		lots := [][]string{{"a"}, {"b", "x"}, {"d", "c", "b", "a"}}[seed%3]
		last := l[len(l)-1].At
		from := (last + 2) * (seed % 7) / 6
		at := len(l)
		for at > 0 && l[at-1].At >= from {
			at--
		}
		shipped, back := 0, 0
		for _, number := range came(l[:at]) {
			f := fateOf(life, l[:at], number)
			if !f.there() || f.where == "" || !slices.Contains(lots, f.lot) {
				continue
			}
			shipped += f.cans
			for i := at; i < len(l); i++ {
				if l[i].Pallet == number && l[i].Kind == api.MBack {
					back += fateOf(life, l[:i+1], number).cans
					break
				}
			}
		}
		gotShipped, gotBack, e := store.Found(life, l, lots, from)
		if gotShipped != shipped || gotBack != back || e != api.OK || back > shipped {
			t.Errorf("Found(%v, %d) of %s = %d, %d, %d, not %d, %d", lots, from, told(l), gotShipped, gotBack, e, shipped, back)
		}
		some1 += min(shipped, 1)
		some2 += min(back, 1)
	}
	if some1 < 50 || some2 < 50 {
		t.Errorf("only %d shipped, %d back", some1, some2)
	}
}

// 9.4
func TestHistory(t *testing.T) {
	for number, want := range map[int][]int{1: {0, 1, 2, 6}, 2: {5, 8, 10}, 4: {3, 7}, 5: {12, 13, 14, 17, 18, 19, 20}, 7: {21}} {
		if l, e := store.History(life, autumn(), number); !slices.Equal(l, want) || e != api.OK {
			t.Errorf("History(%d) = %v, %d", number, l, e)
		}
	}
	for _, number := range []int{math.MinInt, -1, 0, 8, 1000000, 1000001, math.MaxInt} {
		if l, e := store.History(life, autumn(), number); len(l) != 0 || e != api.ErrName {
			t.Errorf("History(%d) = %v, %d", number, l, e)
		}
	}
	for _, l := range goodLedgers() {
		all := 0
		for _, number := range came(l) {
			list, e := store.History(life, l, number)
			if e != api.OK || !slices.IsSorted(list) || len(list) == 0 {
				t.Errorf("History(%d) of %s = %v, %d", number, told(l), list, e)
			}
			for _, i := range list {
				if l[i].Pallet != number {
					t.Errorf("History(%d) of %s = %v", number, told(l), list)
				}
			}
			all += len(list)
		}
		if all != len(l) {
			t.Errorf("the histories of %s have %d of %d moves", told(l), all, len(l))
		}
	}
}

// 9.4: of any list, valid or not.
func TestBefore(t *testing.T) {
	l := autumn()
	for at, want := range map[int]int{math.MinInt: 0, -1: 0, 0: 0, 1: 1, 2: 2, 3: 4, 4: 6, 10: 11, 11: 14, 20: 21, 21: 22, math.MaxInt: 22} {
		if got := store.Before(l, at); !slices.Equal(got, l[:want]) {
			t.Errorf("Before(%d) = %v", at, got)
		}
	}
	wild := []api.Move{{At: -7}, {At: math.MinInt, Kind: 99}, {At: 5}, {At: 3, Where: "X"}, {At: 9}, {At: 3}}
	for at, want := range map[int]int{math.MinInt: 0, -7: 0, -6: 2, 3: 2, 4: 2, 5: 2, 6: 4, 9: 4, 10: 6, math.MaxInt: 6} {
		if got := store.Before(wild, at); !slices.Equal(got, wild[:want]) {
			t.Errorf("Before(%d) = %v", at, got)
		}
	}
	if got := store.Before(nil, 5); len(got) != 0 {
		t.Errorf("Before of nothing = %v", got)
	}
	if got := store.Before(make([]api.Move, 6000), 1); len(got) != 6000 {
		t.Errorf("Before of 6,000 = %d", len(got))
	}
	if got := store.Before([]api.Move{{At: math.MaxInt}}, math.MaxInt); len(got) != 0 {
		t.Errorf("Before the last tick = %v", got)
	}
}
