package store_test

import (
	"fmt"
	"math"
	"slices"
	"testing"

	"cannery/api"
	"cannery/store"
)

// badMove is a move behind some that go, and its error.
type badMove struct {
	before []api.Move
	m      api.Move
	want   api.Errno
}

// hand has a pallet in each state: 1 held, 2 free, 3 shipped, 4 gone, 5 expired and free, 6 expired and held. Their Life is 100.
func hand() []api.Move {
	return []api.Move{
		in(0, 5, "e", 10), free(0, 5), in(0, 6, "f", 10),
		in(100, 1, "a", 10), in(100, 2, "b", 10), free(100, 2), in(100, 3, "c", 10), free(100, 3), ship(100, 3, "joe"), in(100, 4, "d", 10), destroy(100, 4),
	}
}

// badStates lists moves that do not go with the states of pallets.
func badStates() []badMove {
	var list []badMove
	for want, moves := range map[api.Errno][]api.Move{
		api.ErrDuplicate: {in(100, 1, "x", 1), in(100, 3, "x", 1), in(100, 4, "x", 1), in(100, 4, "d", 10), in(100, 5, "x", 1)},
		api.ErrName: {
			hold(100, 4), free(100, 4), ship(100, 4, "joe"), back(100, 4), destroy(100, 4), sample(100, 4, 1),
			hold(100, 7), free(100, 7), ship(100, 7, "joe"), back(100, 7), destroy(100, 7), sample(100, 7, 1), sample(100, 1000000, 1000000),
		},
		api.ErrState: {
			hold(100, 3), free(100, 3), ship(100, 3, "ann"), ship(100, 3, "joe"), destroy(100, 3), sample(100, 3, 1), sample(100, 3, 10),
			hold(100, 1), free(100, 2), hold(100, 6), free(100, 5),
			back(100, 1), back(100, 2), back(100, 5), back(100, 6),
			ship(100, 5, "joe"), ship(200, 2, "joe"), ship(201, 2, "joe"), ship(100000000, 2, "joe"),
		},
		api.ErrHeld:  {ship(100, 1, "joe"), ship(100, 6, "joe"), ship(200, 1, "joe")},
		api.ErrRange: {sample(100, 1, 10), sample(100, 2, 11), sample(100, 5, 10), sample(100, 6, 1000000)},
	} {
		for _, m := range moves {
			list = append(list, badMove{hand(), m, want})
		}
	}
	return list
}

// badForms lists moves that are wrong behind any moves of up to the tick 100, whatever pallets there are.
func badForms() []badMove {
	var list []badMove
	add := func(want api.Errno, moves ...api.Move) {
		for _, m := range moves {
			list = append(list, badMove{hand(), m, want})
		}
	}
	for _, n := range []int{math.MinInt, -1, 100000001, math.MaxInt} {
		add(api.ErrRange, in(n, 9, "a", 1), hold(n, 2), free(n, 1), ship(n, 2, "joe"), back(n, 3), destroy(n, 1), sample(n, 1, 1))
		// before all other errors of the move
		add(api.ErrRange, in(n, 1, "", -1), hold(n, 9), api.Move{At: n})
	}
	for _, n := range []int{math.MinInt, -1, 0, 1000001, math.MaxInt} {
		add(api.ErrRange, in(100, n, "a", 1), hold(100, n), free(100, n), ship(100, n, "joe"), back(100, n), destroy(100, n), sample(100, n, 1))
		add(api.ErrRange, in(99, n, "", -1), hold(0, n))
	}
	for _, n := range []int{math.MinInt, -1, 0, 8, math.MaxInt} {
		add(api.ErrRange, api.Move{At: 100, Pallet: 2, Kind: n}, api.Move{At: 99, Pallet: 2, Kind: n, Where: "A", Cans: -1})
	}
	for _, n := range []int{0, 1, 99} {
		add(api.ErrOrder, in(n, 9, "a", 1), hold(n, 2), free(n, 1), ship(n, 2, "joe"), back(n, 3), destroy(n, 1), sample(n, 1, 1))
		add(api.ErrOrder, in(n, 1, "", -1), hold(n, 9), ship(n, 1, "Joe"), sample(n, 9, 0))
	}
	for _, name := range []string{"", "Joe", "7up", "_x", "two words", "jo-e", "seventeenletters_", "zo\xc3\xab", "a\n", "a\x00"} {
		add(api.ErrInvalid, in(100, 9, name, 1), ship(100, 2, name), in(100, 1, name, 1), ship(100, 1, name), ship(100, 4, name))
	}
	for _, name := range []string{"joe", "b", " ", "Joe"} {
		for _, m := range []api.Move{hold(100, 2), free(100, 1), back(100, 3), destroy(100, 1), sample(100, 1, 1), hold(100, 9), free(100, 2), sample(100, 1, 10)} {
			m.Where = name
			add(api.ErrInvalid, m)
		}
	}
	for _, n := range []int{math.MinInt, -1, 0, 1000001, math.MaxInt} {
		add(api.ErrInvalid, in(100, 9, "a", n), in(100, 1, "a", n), sample(100, 1, n), sample(100, 3, n), sample(100, 9, n))
	}
	for _, n := range []int{math.MinInt, -1, 1, 10, math.MaxInt} {
		for _, m := range []api.Move{hold(100, 2), free(100, 1), ship(100, 2, "joe"), back(100, 3), destroy(100, 1), hold(100, 9), ship(100, 1, "joe")} {
			m.Cans = n
			add(api.ErrInvalid, m)
		}
	}
	return list
}

func badMoves() []badMove {
	return append(slices.Concat(badStates(), badForms()),
		badMove{nil, hold(0, 1), api.ErrName},
		badMove{nil, api.Move{}, api.ErrRange},
		badMove{nil, in(-1, 1, "a", 1), api.ErrRange},
		badMove{full(500), in(500, 501, "a", 1), api.ErrLimit},
		badMove{full(500), in(500, 500, "a", 1), api.ErrDuplicate},
		badMove{full(500), in(500, 501, "A", 1), api.ErrInvalid},
		badMove{append(full(500), destroy(500, 7)), in(500, 501, "a", 1), api.ErrLimit},
		badMove{append(full(500), destroy(500, 7)), in(500, 7, "a", 1), api.ErrDuplicate},
	)
}

// badLedger is a ledger that is not valid, with the index and the error of the first move that fails.
type badLedger struct {
	l    []api.Move
	at   int
	want api.Errno
}

func badLedgers() []badLedger {
	var list []badLedger
	for _, b := range badMoves() {
		list = append(list,
			badLedger{slices.Concat(b.before, []api.Move{b.m}), len(b.before), b.want},
			// what comes behind does not matter
			badLedger{slices.Concat(b.before, []api.Move{b.m, {}, in(0, 1, "a", 1), b.m}), len(b.before), b.want},
		)
	}
	return append(list,
		badLedger{append(full(5000), hold(5000, 1)), 0, api.ErrLimit},
		badLedger{append(full(5000), api.Move{}), 0, api.ErrLimit},
		badLedger{make([]api.Move, 5001), 0, api.ErrLimit},
		badLedger{make([]api.Move, 5000), 0, api.ErrRange},
		badLedger{append(full(4999), free(0, 1)), 4999, api.ErrOrder},
	)
}

// 9.1
func TestCheck(t *testing.T) {
	for _, l := range goodLedgers() {
		if i, e := store.Check(life, l); i != -1 || e != api.OK {
			t.Errorf("Check of %s = %d, %d", told(l), i, e)
		}
	}
	if i, e := store.Check(life, hand()); i != -1 || e != api.OK {
		t.Errorf("Check of %s = %d, %d", told(hand()), i, e)
	}
}

// 9.1, R2
func TestCheckErrors(t *testing.T) {
	for _, b := range badLedgers() {
		if i, e := store.Check(life, b.l); i != b.at || e != b.want {
			t.Errorf("Check of %s = %d, %d, not %d, %d", told(b.l), i, e, b.at, b.want)
		}
	}
}

// wrongLives lists what is no life.
var wrongLives = []int{math.MinInt, -1, 0, 1000000001, math.MaxInt}

// 9.1: a wrong life comes before all moves, but not before there are too many.
func TestCheckLife(t *testing.T) {
	for _, n := range wrongLives {
		for _, l := range [][]api.Move{nil, autumn(), {{}}, full(5000)} {
			if i, e := store.Check(n, l); i != 0 || e != api.ErrRange {
				t.Errorf("Check(%d) of %s = %d, %d", n, told(l), i, e)
			}
		}
		if i, e := store.Check(n, make([]api.Move, 5001)); i != 0 || e != api.ErrLimit {
			t.Errorf("Check(%d) of too many = %d, %d", n, i, e)
		}
	}
	for _, n := range []int{1, 2, 1000000000} {
		if i, e := store.Check(n, []api.Move{in(7, 1, "a", 1), free(7, 1), ship(7, 1, "joe")}); i != -1 || e != api.OK {
			t.Errorf("Check(%d) = %d, %d", n, i, e)
		}
	}
}

// 9.1: the example of the chapter and of the document.
func TestExpires(t *testing.T) {
	for _, c := range []struct{ life, came, at, want int }{
		{100, 10, 109, 0},
		{100, 10, 110, 1},
		{100, 10, 111, 1},
		{1, 10, 10, 0},
		{1, 10, 11, 1},
		{1000000000, 100000000, 100000000, 0},
		{1000000000, 0, 100000000, 0},
		{100000000, 0, 99999999, 0},
		{100000000, 0, 100000000, 1},
	} {
		l := []api.Move{in(c.came, 1, "a", 5), free(c.came, 1), ship(c.at, 1, "joe")}
		i, e := store.Check(c.life, l)
		if c.want == 0 && (i != -1 || e != api.OK) || c.want == 1 && (i != 2 || e != api.ErrState) {
			t.Errorf("Check(%d) of %v = %d, %d", c.life, l, i, e)
		}
		if p, e := store.Pallet(c.life, l[:2], 1); p.Expires != c.came+c.life || e != api.OK {
			t.Errorf("Pallet(%d) of %v = %v, %d", c.life, l[:2], p, e)
		}
	}
}

// 9.1: any moves, by the sentences about their errors.
func TestCheckByItsSentences(t *testing.T) {
	seen := make(map[api.Errno]int)
	for seed := range 3000 {
		r := randomness(seed)
		l := some(seed%40, seed)
		want := api.OK
		at := -1
		for range 1 + r.IntN(3) {
			m := anyMove(r, l)
			if r.IntN(2) == 0 {
				m = wrongMove(r, l)
			}
			if want == api.OK {
				want = errorOf(life, l, m)
			}
			if want != api.OK && at < 0 {
				at = len(l)
			}
			l = append(l, m)
		}
		if i, e := store.Check(life, l); i != at || e != want {
			t.Errorf("Check of %s = %d, %d, not %d, %d", told(l), i, e, at, want)
		}
		seen[want]++
	}
	for _, e := range []api.Errno{api.OK, api.ErrRange, api.ErrOrder, api.ErrInvalid, api.ErrDuplicate, api.ErrName, api.ErrState, api.ErrHeld} {
		if seen[e] < 20 {
			t.Errorf("only %d ledgers with the error %d", seen[e], e)
		}
	}
}

// 9.1
func TestAdd(t *testing.T) {
	for _, l := range goodLedgers() {
		r := randomness(len(l))
		for i := range 60 {
			m := anyMove(r, l)
			if i%3 == 0 {
				m = wrongMove(r, l)
			}
			want := errorOf(life, l, m)
			got, e := store.Add(life, l, m)
			if e != want || want == api.OK && !slices.Equal(got, append(slices.Clone(l), m)) || want != api.OK && len(got) != 0 {
				t.Errorf("Add of %v to %s = %s, %d, not %d", m, told(l), told(got), e, want)
			}
		}
	}
}

// 9.1, R2: the error of the move behind all of the ledger's, which are those of Check.
func TestAddErrors(t *testing.T) {
	for _, b := range badMoves() {
		if got, e := store.Add(life, b.before, b.m); len(got) != 0 || e != b.want {
			t.Errorf("Add of %v to %s = %s, %d, not %d", b.m, told(b.before), told(got), e, b.want)
		}
	}
	for _, b := range badLedgers() {
		for _, m := range []api.Move{{}, in(1000, 20, "a", 1)} {
			if got, e := store.Add(life, b.l, m); len(got) != 0 || e != b.want {
				t.Errorf("Add of %v to %s = %s, %d, not %d", m, told(b.l), told(got), e, b.want)
			}
		}
	}
}

// 9.1: a 5,001st move is too many, whatever it is.
func TestAddToTheLongest(t *testing.T) {
	l, e := store.Add(life, full(4999), free(4999, 500))
	if len(l) != 5000 || e != api.OK {
		t.Fatalf("Add of the last move: %d moves, %d", len(l), e)
	}
	for _, m := range []api.Move{destroy(5000, 1), {}, hold(0, 1), in(5000, 1, "a", 1), in(5000, 501, "A", -1)} {
		if got, e := store.Add(life, l, m); len(got) != 0 || e != api.ErrLimit {
			t.Errorf("Add of %v to 5,000 moves: %d moves, %d", m, len(got), e)
		}
	}
}

// 9.1: 500 pallets may come in, also if others are gone.
func TestMostPallets(t *testing.T) {
	var l []api.Move
	for i := range 500 {
		l = append(l, in(i, 1000000-i, "a", 1))
		if i%2 > 0 {
			l = append(l, destroy(i, 1000000-i))
		}
	}
	if i, e := store.Check(life, l); i != -1 || e != api.OK {
		t.Errorf("Check of 500 pallets = %d, %d", i, e)
	}
	if got, e := store.Add(life, l, in(500, 1, "a", 1)); len(got) != 0 || e != api.ErrLimit {
		t.Errorf("Add of another pallet = %d", e)
	}
	if p, e := store.Pallets(life, l); len(p) != 250 || e != api.OK {
		t.Errorf("Pallets = %d, %d", len(p), e)
	}
}

// P9.5
func TestBeginnings(t *testing.T) {
	for _, l := range goodLedgers() {
		step := 1 + len(l)/40
		for n := 0; n <= len(l); n += step {
			if i, e := store.Check(life, l[:n]); i != -1 || e != api.OK {
				t.Errorf("Check of %d moves of %s = %d, %d", n, told(l), i, e)
			}
		}
	}
}

// P9.5: move by move, only the pallet of the move changes, as its fate says.
func TestPalletsMoveByMove(t *testing.T) {
	for seed := range 60 {
		l := some(60, seed)
		before := make(map[int]api.Pallet)
		for n := range len(l) + 1 {
			list, e := store.Pallets(life, l[:n])
			if e != api.OK {
				t.Fatalf("Pallets = %d", e)
			}
			now := make(map[int]api.Pallet)
			for _, p := range list {
				now[p.Number] = p
				if n > 0 && p.Number != l[n-1].Pallet && p != before[p.Number] {
					t.Errorf("%v after %s, but %v before it", p, told(l[:n]), before[p.Number])
				}
			}
			for number := range before {
				if _, is := now[number]; !is && (number != l[n-1].Pallet || l[n-1].Kind != api.MDestroy) {
					t.Errorf("%d is not there after %s", number, told(l[:n]))
				}
			}
			before = now
		}
	}
}

// 9.1
func TestPallets(t *testing.T) {
	want := []api.Pallet{
		{Number: 1, Lot: "peas", Cans: 95, Expires: 100, Where: "joe"},
		{Number: 2, Lot: "corn", Cans: 70, Expires: 103, Held: true},
		{Number: 3, Lot: "peas", Cans: 200, Expires: 103},
		{Number: 5, Lot: "peas", Cans: 39, Expires: 110, Where: "ann"},
		{Number: 6, Lot: "corn", Cans: 30, Expires: 110, Where: "joe"},
		{Number: 7, Lot: "corn", Cans: 9, Expires: 120, Held: true},
	}
	if l, e := store.Pallets(life, autumn()); !slices.Equal(l, want) || e != api.OK {
		t.Errorf("Pallets = %v, %d", l, e)
	}
	for _, p := range want {
		if q, e := store.Pallet(life, autumn(), p.Number); q != p || e != api.OK {
			t.Errorf("Pallet(%d) = %v, %d", p.Number, q, e)
		}
	}
	for _, number := range []int{math.MinInt, -1, 0, 4, 8, 1000001, math.MaxInt} {
		if p, e := store.Pallet(life, autumn(), number); p != (api.Pallet{}) || e != api.ErrName {
			t.Errorf("Pallet(%d) = %v, %d", number, p, e)
		}
	}
	if l, e := store.Pallets(life, nil); len(l) != 0 || e != api.OK {
		t.Errorf("Pallets of nothing = %v, %d", l, e)
	}
}

// 9.1: by the table of moves.
func TestPalletsByTheirTable(t *testing.T) {
	for _, l := range goodLedgers() {
		var want []api.Pallet
		for _, number := range came(l) {
			f := fateOf(life, l, number)
			p, e := store.Pallet(life, l, number)
			if f.there() {
				want = append(want, f.pallet(number))
				if p != f.pallet(number) || e != api.OK {
					t.Errorf("Pallet(%d) of %s = %v, %d", number, told(l), p, e)
				}
			} else if e != api.ErrName || p != (api.Pallet{}) {
				t.Errorf("Pallet(%d) of %s = %v, %d", number, told(l), p, e)
			}
		}
		if got, e := store.Pallets(life, l); !slices.Equal(got, want) || e != api.OK {
			t.Errorf("Pallets of %s = %v, %d", told(l), got, e)
		}
	}
}

// Details: what comes back is held, keeps its cans, and may be freed and shipped again.
func TestBack(t *testing.T) {
	l := []api.Move{in(10, 3, "a", 20), free(11, 3), sample(12, 3, 4), ship(13, 3, "joe")}
	for i := range 5 {
		at := 20 + 10*i
		l = append(l, back(at, 3))
		if p, e := store.Pallet(life, l, 3); p != (api.Pallet{Number: 3, Lot: "a", Cans: 16, Expires: 110, Held: true}) || e != api.OK {
			t.Errorf("Pallet of %v = %v, %d", l, p, e)
		}
		if _, e := store.Add(life, l, ship(at, 3, "ann")); e != api.ErrHeld {
			t.Errorf("Add of a shipment to %v = %d", l, e)
		}
		customer := fmt.Sprint("customer", i)
		l = append(l, free(at, 3), ship(at+1, 3, customer))
		if p, e := store.Pallet(life, l, 3); p != (api.Pallet{Number: 3, Lot: "a", Cans: 16, Expires: 110, Where: customer}) || e != api.OK {
			t.Errorf("Pallet of %v = %v, %d", l, p, e)
		}
	}
}
