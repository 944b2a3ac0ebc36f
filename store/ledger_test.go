package store_test

import (
	"fmt"
	"math/rand/v2"
	"slices"

	"cannery/api"
	"cannery/lethal"
)

func in(at, pallet int, lot string, cans int) api.Move {
	return api.Move{At: at, Pallet: pallet, Kind: api.MIn, Where: lot, Cans: cans}
}

func hold(at, pallet int) api.Move { return api.Move{At: at, Pallet: pallet, Kind: api.MHold} }

func free(at, pallet int) api.Move { return api.Move{At: at, Pallet: pallet, Kind: api.MFree} }

func ship(at, pallet int, customer string) api.Move {
	return api.Move{At: at, Pallet: pallet, Kind: api.MShip, Where: customer}
}

func back(at, pallet int) api.Move { return api.Move{At: at, Pallet: pallet, Kind: api.MBack} }

func destroy(at, pallet int) api.Move { return api.Move{At: at, Pallet: pallet, Kind: api.MDestroy} }

func sample(at, pallet, cans int) api.Move {
	return api.Move{At: at, Pallet: pallet, Kind: api.MSample, Cans: cans}
}

// life is how long the pallets of the tests keep, if it is not said otherwise.
const life = 100

// autumn is a ledger with moves of every kind. At its end 1 is with joe, 2 on hand and held, 3 on hand and free, 4 destroyed, 5 with ann, 6 with joe, 7 on hand and held.
func autumn() []api.Move {
	return []api.Move{
		in(0, 1, "peas", 100),
		sample(1, 1, 5),
		free(2, 1),
		in(2, 4, "beans", 50),
		in(3, 3, "peas", 200),
		in(3, 2, "corn", 70),
		ship(4, 1, "joe"),
		destroy(5, 4),
		free(5, 2),
		free(6, 3),
		hold(7, 2),
		in(10, 6, "corn", 30),
		in(10, 5, "peas", 40),
		free(10, 5),
		ship(11, 5, "zoe"),
		free(11, 6),
		ship(12, 6, "joe"),
		back(13, 5),
		sample(14, 5, 1),
		free(15, 5),
		ship(16, 5, "ann"),
		in(20, 7, "corn", 9),
	}
}

// fate is what the moves of a pallet say of it.
type fate struct {
	came, gone, held bool
	lot, where       string
	cans, expires    int
}

// fateOf follows the chapter's table of moves.
func fateOf(life int, l []api.Move, number int) fate {
	var f fate
	for _, m := range l {
		if m.Pallet != number {
			continue
		}
		switch m.Kind {
		case api.MIn:
			f = fate{came: true, held: true, lot: m.Where, cans: m.Cans, expires: m.At + life}
		case api.MHold:
			f.held = true
		case api.MFree:
			f.held = false
		case api.MShip:
			f.where = m.Where
		case api.MBack:
			f.where, f.held = "", true
		case api.MDestroy:
			f.gone = true
		case api.MSample:
			f.cans -= m.Cans
		}
	}
	return f
}

func (f fate) there() bool { return f.came && !f.gone }

func (f fate) onHand() bool { return f.there() && f.where == "" }

func (f fate) pallet(number int) api.Pallet {
	return api.Pallet{Number: number, Lot: f.lot, Cans: f.cans, Expires: f.expires, Held: f.held, Where: f.where}
}

// came returns the numbers of all pallets that came in, in ascending order.
func came(l []api.Move) []int {
	var numbers []int
	for _, m := range l {
		if m.Kind == api.MIn {
			numbers = append(numbers, m.Pallet)
		}
	}
	slices.Sort(numbers)
	return numbers
}

// those returns the numbers of the pallets that came in and fit, in ascending order.
func those(life int, l []api.Move, fits func(fate) bool) []int {
	var numbers []int
	for _, number := range came(l) {
		if fits(fateOf(life, l, number)) {
			numbers = append(numbers, number)
		}
	}
	return numbers
}

func between(n, least, most int) bool { return least <= n && n <= most }

// wrongUse follows the third of the errors of moves.
func wrongUse(m api.Move) bool {
	if m.Kind == api.MIn || m.Kind == api.MShip {
		if !lethal.Name(m.Where) {
			return true
		}
	} else if m.Where != "" {
		return true
	}
	if m.Kind == api.MIn || m.Kind == api.MSample {
		return !between(m.Cans, 1, 1000000)
	}
	return m.Cans != 0
}

// errorOf follows the sentences about the errors of a move behind a valid ledger.
func errorOf(life int, l []api.Move, m api.Move) api.Errno {
	f := fateOf(life, l, m.Pallet)
	switch {
	case len(l) == 5000:
		return api.ErrLimit
	case !between(m.At, 0, 100000000) || !between(m.Pallet, 1, 1000000) || !between(m.Kind, 1, 7):
		return api.ErrRange
	case len(l) > 0 && m.At < l[len(l)-1].At:
		return api.ErrOrder
	case wrongUse(m):
		return api.ErrInvalid
	case m.Kind == api.MIn && f.came:
		return api.ErrDuplicate
	case m.Kind == api.MIn && len(came(l)) == 500:
		return api.ErrLimit
	case m.Kind == api.MIn:
		return api.OK
	case !f.there():
		return api.ErrName
	case m.Kind == api.MBack && f.onHand(), m.Kind != api.MBack && !f.onHand():
		return api.ErrState
	case m.Kind == api.MFree && !f.held, m.Kind == api.MHold && f.held:
		return api.ErrState
	case m.Kind == api.MShip && f.held:
		return api.ErrHeld
	case m.Kind == api.MShip && m.At >= f.expires:
		return api.ErrState
	case m.Kind == api.MSample && f.cans <= m.Cans:
		return api.ErrRange
	}
	return api.OK
}

// one returns one of a list.
func one[T any](r *rand.Rand, list ...T) T { return list[r.IntN(len(list))] }

func randomness(seed int) *rand.Rand { return rand.New(rand.NewPCG(uint64(seed), 9)) }

// anyMove makes a move behind a ledger, which mostly goes.
func anyMove(r *rand.Rand, l []api.Move) api.Move {
	at := 0
	if len(l) > 0 {
		at = l[len(l)-1].At
	}
	m := api.Move{At: at + max(0, r.IntN(12)-8), Pallet: 1 + r.IntN(12), Kind: 1 + r.IntN(7)}
	if m.Kind == api.MDestroy && r.IntN(3) > 0 {
		m.Kind = api.MFree
	}
	switch m.Kind {
	case api.MIn:
		m.Where, m.Cans = one(r, "a", "b", "c", "d"), 1+r.IntN(60)
	case api.MShip:
		m.Where = one(r, "joe", "ann", "zoe")
	case api.MSample:
		m.Cans = 1 + r.IntN(12)
	}
	return m
}

// wrongMove makes a move that is wrong in one way, or in two.
func wrongMove(r *rand.Rand, l []api.Move) api.Move {
	m := anyMove(r, l)
	for range 1 + r.IntN(2) {
		switch r.IntN(5) {
		case 0:
			m.At -= 1 + r.IntN(20)
		case 1:
			m.Pallet = one(r, -1, 0, 1000001)
		case 2:
			m.Kind = one(r, -1, 0, 8)
		case 3:
			m.Where = one(r, "", "x", "Joe", "no name")
		case 4:
			m.Cans = one(r, -1, 0, 7, 1000001)
		}
	}
	return m
}

// some makes a valid ledger of n moves or a few less.
func some(n, seed int) []api.Move {
	r := randomness(seed)
	var l []api.Move
	for range 4 * n {
		if m := anyMove(r, l); len(l) < n && errorOf(life, l, m) == api.OK {
			l = append(l, m)
		}
	}
	return l
}

// told tells a ledger, the beginning of a long one.
func told(l []api.Move) string {
	s := fmt.Sprint(l)
	return s[:min(len(s), 1000)]
}

// full has 500 pallets, and is as long as there may be one if its moves are 5,000.
func full(moves int) []api.Move {
	l := make([]api.Move, 0, moves)
	for i := range moves {
		pallet := 1 + i%500
		switch {
		case i < 500:
			l = append(l, in(i, pallet, fmt.Sprintf("lot%d", i%7), 1000+i))
		case i/500%2 == 1:
			l = append(l, free(i, pallet))
		default:
			l = append(l, hold(i, pallet))
		}
	}
	return l
}

// goodLedgers lists valid ledgers, at the limits.
func goodLedgers() [][]api.Move {
	list := [][]api.Move{
		nil,
		{},
		autumn(),
		full(500),
		full(5000),
		{in(0, 1, "a", 1), in(100000000, 1000000, "sixteen_letters1", 1000000)},
		{in(0, 1, "a", 1), destroy(0, 1)},
		{in(5, 1, "a", 1), free(5, 1), ship(5, 1, "a"), back(5, 1), free(5, 1), ship(5, 1, "sixteen_letters1")},
		{in(0, 1, "a", 1000000), sample(0, 1, 999999)},
		// what has expired can be moved otherwise
		{in(0, 1, "a", 9), free(100, 1), sample(101, 1, 1), hold(200, 1), free(100000000, 1), destroy(100000000, 1)},
		{in(0, 1, "a", 9), free(0, 1), ship(99, 1, "joe"), back(500, 1)},
	}
	for seed := range 20 {
		list = append(list, some(seed*3, seed))
	}
	return list
}
