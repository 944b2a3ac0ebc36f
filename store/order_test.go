package store_test

import (
	"fmt"
	"math"
	"slices"
	"testing"

	"cannery/api"
	"cannery/store"
)

// shelf has pallets of two lots on hand, not in the order in which they expire, and some that can't be shipped.
func shelf() []api.Move {
	return []api.Move{
		in(0, 9, "a", 10),  // expires at 100
		in(5, 4, "a", 20),  // at 105
		in(5, 2, "b", 30),  // at 105
		in(5, 7, "a", 40),  // at 105
		in(20, 1, "b", 50), // at 120
		in(20, 3, "a", 60), // at 120, held
		in(20, 5, "a", 70), // shipped
		in(20, 6, "a", 80), // gone
		in(20, 8, "c", 90), // of another lot
		free(30, 9), free(30, 4), free(30, 2), free(30, 7), free(30, 1), free(30, 5), free(30, 8),
		ship(30, 5, "joe"), destroy(30, 6),
	}
}

// 9.3
func TestPick(t *testing.T) {
	both := []string{"b", "a"}
	for _, c := range []struct {
		lots     []string
		cans, at int
		want     []int
	}{
		{both, 1, 30, []int{9}},
		{both, 10, 30, []int{9}},
		{both, 11, 30, []int{9, 2}},
		{both, 40, 30, []int{9, 2}},
		{both, 41, 30, []int{9, 2, 4}},
		{both, 60, 30, []int{9, 2, 4}},
		{both, 61, 30, []int{9, 2, 4, 7}},
		{both, 101, 30, []int{9, 2, 4, 7, 1}},
		{both, 150, 30, []int{9, 2, 4, 7, 1}},
		// some lots only
		{[]string{"a"}, 70, 30, []int{9, 4, 7}},
		{[]string{"b"}, 31, 30, []int{2, 1}},
		{[]string{"x", "b", "", "no name"}, 80, 30, []int{2, 1}},
		{[]string{"c", "b", "a"}, 240, 30, []int{9, 2, 4, 7, 1, 8}},
		// what has expired at the tick
		{both, 1, 99, []int{9}},
		{both, 1, 100, []int{2}},
		{both, 140, 104, []int{2, 4, 7, 1}},
		{both, 50, 105, []int{1}},
		{both, 50, 119, []int{1}},
		// the tick may be before what was moved last, also before a pallet came
		{both, 150, 0, []int{9, 2, 4, 7, 1}},
	} {
		if l, e := store.Pick(life, shelf(), c.lots, c.cans, c.at); !slices.Equal(l, c.want) || e != api.OK {
			t.Errorf("Pick(%v, %d, %d) = %v, %d, not %v", c.lots, c.cans, c.at, l, e, c.want)
		}
	}
	for _, c := range []struct {
		lots     []string
		cans, at int
	}{
		{both, 151, 30}, {both, 1000000000, 30}, {both, 141, 100}, {both, 51, 105}, {both, 1, 120}, {both, 1, 100000000},
		{[]string{"a"}, 71, 30}, {[]string{"x"}, 1, 30}, {nil, 1, 30}, {[]string{""}, 1, 30},
	} {
		if l, e := store.Pick(life, shelf(), c.lots, c.cans, c.at); len(l) != 0 || e != api.ErrNone {
			t.Errorf("Pick(%v, %d, %d) = %v, %d", c.lots, c.cans, c.at, l, e)
		}
	}
	for _, cans := range []int{math.MinInt, -1, 0, 1000000001, math.MaxInt} {
		for _, lots := range [][]string{both, nil} {
			if l, e := store.Pick(life, shelf(), lots, cans, 30); len(l) != 0 || e != api.ErrRange {
				t.Errorf("Pick(%v, %d) = %v, %d", lots, cans, l, e)
			}
		}
	}
}

// picked follows the sentence about Pick: it takes the best pallet until there are enough cans.
func picked(life int, l []api.Move, lots []string, cans, at int) ([]int, bool) {
	var taken []int
	for cans > 0 {
		best := 0
		for _, number := range came(l) {
			f, b := fateOf(life, l, number), fateOf(life, l, best)
			fits := f.onHand() && !f.held && at < f.expires && slices.Contains(lots, f.lot) && !slices.Contains(taken, number)
			if fits && (best == 0 || f.expires < b.expires || f.expires == b.expires && number < best) {
				best = number
			}
		}
		if best == 0 {
			return nil, false
		}
		taken = append(taken, best)
		cans -= fateOf(life, l, best).cans
	}
	return taken, true
}

// 9.3, P9.3, P9.4: what is picked can be shipped, and nothing that could be shipped expires before it.
func TestPickByItsSentence(t *testing.T) {
	full, short := 0, 0
	for seed := range 600 {
		r := randomness(seed)
		l := some(20+seed%40, seed)
		lots := [][]string{{"a"}, {"c", "a", "x"}, {"a", "b", "c", "d"}}[seed%3]
		life, cans := 30+r.IntN(40), 1+r.IntN(90)
		at := 0
		if len(l) > 0 {
			at = l[len(l)-1].At + r.IntN(30)
		}
		if i, _ := store.Check(life, l); i >= 0 {
			l = l[:i]
		}
		want, ok := picked(life, l, lots, cans, at)
		got, e := store.Pick(life, l, lots, cans, at)
		if !slices.Equal(got, want) || ok != (e == api.OK) || !ok && e != api.ErrNone {
			t.Errorf("Pick(%d, %v, %d, %d) of %s = %v, %d, not %v", life, lots, cans, at, told(l), got, e, want)
		}
		if !ok {
			short++
			continue
		}
		full++
		shipped, e := store.Ship(life, l, got, "joe", at)
		if len(shipped) != len(l)+len(got) || e != api.OK {
			t.Errorf("Ship of %v to %s: %d", got, told(l), e)
		}
	}
	if full < 100 || short < 100 {
		t.Errorf("only %d orders that went, %d that did not", full, short)
	}
}

// 9.3
func TestShip(t *testing.T) {
	l := shelf()
	for _, numbers := range [][]int{nil, {9}, {1, 9, 4}, {4, 9, 1}, {9, 4, 2, 7, 1, 8}} {
		want := slices.Clone(l)
		for _, number := range numbers {
			want = append(want, ship(40, number, "zoe"))
		}
		if got, e := store.Ship(life, l, numbers, "zoe", 40); !slices.Equal(got, want) || e != api.OK {
			t.Errorf("Ship(%v) = %v, %d", numbers, got, e)
		}
	}
	// No numbers make no move: neither the customer nor the order of ticks matters.
	for _, at := range []int{0, 29, 30, 100000000} {
		if got, e := store.Ship(life, l, nil, "No name", at); !slices.Equal(got, l) || e != api.OK {
			t.Errorf("Ship of nothing at %d = %v, %d", at, got, e)
		}
	}
	if got, e := store.Ship(life, full(5000), nil, "joe", 0); len(got) != 5000 || e != api.OK {
		t.Errorf("Ship of nothing = %d moves, %d", len(got), e)
	}
}

// 9.3: the error of the first move that fails.
func TestShipErrors(t *testing.T) {
	for _, c := range []struct {
		numbers  []int
		customer string
		at       int
		want     api.Errno
	}{
		{[]int{3}, "joe", 40, api.ErrHeld},
		{[]int{5}, "joe", 40, api.ErrState},
		{[]int{6}, "joe", 40, api.ErrName},
		{[]int{10}, "joe", 40, api.ErrName},
		{[]int{0}, "joe", 40, api.ErrRange},
		{[]int{math.MinInt}, "joe", 40, api.ErrRange},
		{[]int{1000001}, "joe", 40, api.ErrRange},
		{[]int{9}, "joe", 29, api.ErrOrder},
		{[]int{9}, "joe", 100, api.ErrState},
		{[]int{9}, "Joe", 40, api.ErrInvalid},
		{[]int{9}, "", 40, api.ErrInvalid},
		{[]int{9, 4, 3, 5, 6}, "joe", 40, api.ErrHeld},
		{[]int{9, 4, 5, 3, 6}, "joe", 40, api.ErrState},
		{[]int{9, 4, 6, 3, 5}, "joe", 40, api.ErrName},
		{[]int{9, 4, -1, 3, 5}, "joe", 40, api.ErrRange},
		{[]int{4, 9}, "joe", 100, api.ErrState},
		{[]int{3, 10, -1}, "Joe", 40, api.ErrInvalid},
		{[]int{-1, 3, 10}, "Joe", 40, api.ErrRange},
		{[]int{3, 10, -1}, "Joe", 29, api.ErrOrder},
	} {
		if got, e := store.Ship(life, shelf(), c.numbers, c.customer, c.at); len(got) != 0 || e != c.want {
			t.Errorf("Ship(%v, %s, %d) = %v, %d, not %d", c.numbers, c.customer, c.at, got, e, c.want)
		}
	}
}

// 9.3: a 5,001st move is one that fails.
func TestShipToTheLongest(t *testing.T) {
	// Of 4,998 moves the last one that is free is the pallet 498.
	l := full(4998)
	for _, c := range []struct {
		numbers []int
		want    api.Errno
	}{
		{[]int{1, 2}, api.OK},
		{[]int{1, 2, 3}, api.ErrLimit},
		{[]int{1, 2, -3}, api.ErrLimit},
		{[]int{1, 499, 2}, api.ErrHeld},
		{[]int{1, -1, 2}, api.ErrRange},
	} {
		if got, e := store.Ship(10000, l, c.numbers, "joe", 4999); e != c.want || e == api.OK && len(got) != 5000 || e != api.OK && len(got) != 0 {
			t.Errorf("Ship(%v) = %d moves, %d", c.numbers, len(got), e)
		}
	}
}

// 9.3
func TestHoldAllAndFreeAll(t *testing.T) {
	l := shelf()
	for _, c := range []struct {
		lots       []string
		held, free []int
	}{
		{nil, nil, nil},
		{[]string{"x", "joe", ""}, nil, nil},
		{[]string{"a"}, []int{4, 7, 9}, []int{3}},
		{[]string{"b"}, []int{1, 2}, nil},
		{[]string{"b", "x", "a"}, []int{1, 2, 4, 7, 9}, []int{3}},
		{[]string{"c", "b", "a"}, []int{1, 2, 4, 7, 8, 9}, []int{3}},
	} {
		// Also what has expired is held and freed.
		for _, at := range []int{30, 31, 110, 100000000} {
			held, freed := slices.Clone(l), slices.Clone(l)
			for _, number := range c.held {
				held = append(held, hold(at, number))
			}
			for _, number := range c.free {
				freed = append(freed, free(at, number))
			}
			if got, e := store.HoldAll(life, l, c.lots, at); !slices.Equal(got, held) || e != api.OK {
				t.Errorf("HoldAll(%v, %d) = %v, %d", c.lots, at, got, e)
			}
			if got, e := store.FreeAll(life, l, c.lots, at); !slices.Equal(got, freed) || e != api.OK {
				t.Errorf("FreeAll(%v, %d) = %v, %d", c.lots, at, got, e)
			}
		}
	}
	// A tick before the last move's is wrong only where there is a move.
	if got, e := store.HoldAll(life, l, []string{"a"}, 29); len(got) != 0 || e != api.ErrOrder {
		t.Errorf("HoldAll before the last move = %v, %d", got, e)
	}
	if got, e := store.FreeAll(life, l, []string{"a"}, 29); len(got) != 0 || e != api.ErrOrder {
		t.Errorf("FreeAll before the last move = %v, %d", got, e)
	}
	if got, e := store.HoldAll(life, l, []string{"x"}, 29); !slices.Equal(got, l) || e != api.OK {
		t.Errorf("HoldAll of nothing = %v, %d", got, e)
	}
	if got, e := store.FreeAll(life, l, []string{"b"}, 29); !slices.Equal(got, l) || e != api.OK {
		t.Errorf("FreeAll of nothing = %v, %d", got, e)
	}
}

// 9.3
func TestHoldAllToTheLongest(t *testing.T) {
	var lots []string
	for i := range 7 {
		lots = append(lots, fmt.Sprintf("lot%d", i))
	}
	for moves, c := range map[int]struct{ hold, free api.Errno }{
		1000: {api.OK, api.OK},       // all are free
		4500: {api.OK, api.OK},       // all are held
		4750: {api.OK, api.OK},       // half of them are
		4751: {api.ErrLimit, api.OK}, // one more is free
		5000: {api.ErrLimit, api.OK},
	} {
		held, e := store.HoldAll(life, full(moves), lots, 5000)
		if e != c.hold || e != api.OK && len(held) != 0 || len(held) > 5000 {
			t.Errorf("HoldAll of %d moves = %d moves, %d", moves, len(held), e)
		}
		freed, e := store.FreeAll(life, full(moves), lots, 5000)
		if e != c.free || e != api.OK && len(freed) != 0 || len(freed) > 5000 {
			t.Errorf("FreeAll of %d moves = %d moves, %d", moves, len(freed), e)
		}
	}
	if got, e := store.FreeAll(life, full(4501), lots, 5000); len(got) != 5000 || e != api.OK {
		t.Errorf("FreeAll = %d moves, %d", len(got), e)
	}
	if got, e := store.FreeAll(life, append(full(4501), sample(4501, 2, 1)), lots, 5000); len(got) != 0 || e != api.ErrLimit {
		t.Errorf("FreeAll = %d moves, %d", len(got), e)
	}
}

// 9.3: after them no pallet of the lots that is on hand is free, or held.
func TestHoldAllByItsSentence(t *testing.T) {
	for seed := range 200 {
		l := some(50, seed)
		at, lots := l[len(l)-1].At+seed%3, []string{"d", "a"}
		held, e := store.HoldAll(life, l, lots, at)
		if len(held) < len(l) || e != api.OK {
			t.Fatalf("HoldAll of %s = %d", told(l), e)
		}
		freed, e := store.FreeAll(life, l, lots, at)
		if len(freed) < len(l) || e != api.OK {
			t.Fatalf("FreeAll of %s = %d", told(l), e)
		}
		for _, number := range came(l) {
			f, h, r := fateOf(life, l, number), fateOf(life, held, number), fateOf(life, freed, number)
			if f.onHand() && slices.Contains(lots, f.lot) {
				f.held = true
				if h != f {
					t.Errorf("HoldAll of %s makes %v of %d", told(l), h, number)
				}
				f.held = false
				if r != f {
					t.Errorf("FreeAll of %s makes %v of %d", told(l), r, number)
				}
			} else if h != f || r != f {
				t.Errorf("%d changes from %v to %v or %v in %s", number, f, h, r, told(l))
			}
		}
	}
}

// P9.3: in a valid ledger nothing that is held, expired or gone is shipped.
func TestNeverShipped(t *testing.T) {
	shipped := 0
	for seed := range 400 {
		l := some(60, seed)
		for i, m := range l {
			f := fateOf(life, l[:i], m.Pallet)
			if m.Kind != api.MShip {
				continue
			}
			shipped++
			if f.held || !f.onHand() || m.At >= f.expires {
				t.Errorf("%v is shipped at %d", f, m.At)
			}
			if n, e := store.Check(life, l[:i+1]); n != -1 || e != api.OK {
				t.Errorf("Check = %d, %d", n, e)
			}
		}
	}
	if shipped < 500 {
		t.Errorf("only %d were shipped", shipped)
	}
	// Each pallet that is on hand at the end: whether it may be shipped is told by its state.
	for seed := range 200 {
		l := some(60, seed)
		at := l[len(l)-1].At + seed%120
		for number := range 14 {
			f := fateOf(life, l, number)
			_, e := store.Ship(life, l, []int{number}, "joe", at)
			if ok := f.onHand() && !f.held && at < f.expires; ok != (e == api.OK) {
				t.Errorf("Ship of %d, which is %v, at %d: %d", number, f, at, e)
			}
		}
	}
}
