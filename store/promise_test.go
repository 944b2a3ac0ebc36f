package store_test

import (
	"fmt"
	"math"
	"slices"
	"strings"
	"testing"

	"cannery/api"
	"cannery/store"
)

// question is what is asked of a ledger.
type question struct {
	life, number, cans, at int
	lot, customer          string
	lots                   []string
	numbers                []int
	m                      api.Move
}

// good is a question that can be answered of autumn, by each function.
func good() question {
	return question{life: life, number: 3, cans: 50, at: 20, lot: "peas", customer: "eve", lots: []string{"corn", "peas"}, numbers: []int{3}, m: hold(20, 3)}
}

// answer is what a function returned: its results, all their zero values if they are nothing, and its error.
type answer struct {
	function, results string
	zero              bool
	e                 api.Errno
}

func answerOf(function string, zero bool, e api.Errno, results ...any) answer {
	return answer{function, fmt.Sprintln(results...), zero, e}
}

// plain calls the functions that take neither a tick nor a list.
func plain(l []api.Move, q question) []answer {
	pallets, e := store.Pallets(q.life, l)
	added, e2 := store.Add(q.life, l, q.m)
	p, e3 := store.Pallet(q.life, l, q.number)
	a, e4 := store.Account(q.life, l, q.lot)
	lots, e5 := store.Lots(q.life, l)
	customers, e6 := store.Customers(q.life, l)
	history, e7 := store.History(q.life, l, q.number)
	return []answer{
		answerOf("Pallets", len(pallets) == 0, e, pallets),
		answerOf("Add", len(added) == 0, e2, added),
		answerOf("Pallet", p == api.Pallet{}, e3, p),
		answerOf("Account", a == api.Account{}, e4, a),
		answerOf("Lots", len(lots) == 0, e5, lots),
		answerOf("Customers", len(customers) == 0, e6, customers),
		answerOf("History", len(history) == 0, e7, history),
	}
}

// ofTick calls the function that takes a tick and no list.
func ofTick(l []api.Move, q question) []answer {
	expired, e := store.Expired(q.life, l, q.at)
	return []answer{answerOf("Expired", len(expired) == 0, e, expired)}
}

// ofLots calls the function that takes a list and no tick.
func ofLots(l []api.Move, q question) []answer {
	customers, cans, e := store.Where(q.life, l, q.lots)
	return []answer{answerOf("Where", len(customers) == 0 && len(cans) == 0, e, customers, cans)}
}

// ofBoth calls the functions that take a tick and a list.
func ofBoth(l []api.Move, q question) []answer {
	picked, e := store.Pick(q.life, l, q.lots, q.cans, q.at)
	shipped, e2 := store.Ship(q.life, l, q.numbers, q.customer, q.at)
	held, e3 := store.HoldAll(q.life, l, q.lots, q.at)
	freed, e4 := store.FreeAll(q.life, l, q.lots, q.at)
	out, back, e5 := store.Found(q.life, l, q.lots, q.at)
	return []answer{
		answerOf("Pick", len(picked) == 0, e, picked),
		answerOf("Ship", len(shipped) == 0, e2, shipped),
		answerOf("HoldAll", len(held) == 0, e3, held),
		answerOf("FreeAll", len(freed) == 0, e4, freed),
		answerOf("Found", out == 0 && back == 0, e5, out, back),
	}
}

func ofLedger(l []api.Move, q question) []answer {
	return slices.Concat(plain(l, q), ofTick(l, q), ofLots(l, q), ofBoth(l, q))
}

// answers calls each function.
func answers(l []api.Move, q question) []answer {
	i, e := store.Check(q.life, l)
	m, line, e2 := store.Parse(store.Format(l))
	return append(ofLedger(l, q),
		answerOf("Check", true, e, i),
		answerOf("Before", true, api.OK, store.Before(l, q.at)),
		answerOf("Format", true, api.OK, store.Format(l)),
		answerOf("Parse", len(m) == 0 && line == 0, e2, m, line),
	)
}

// expect tells which of some answers do not have an error, or have results with it.
func expect(t *testing.T, list []answer, want api.Errno, of ...any) {
	t.Helper()
	for _, a := range list {
		if a.e != want || want != api.OK && !a.zero {
			s := fmt.Sprint(of...)
			t.Errorf("%s of %s = %s with the error %d, not %d", a.function, s[:min(len(s), 1000)], a.results, a.e, want)
		}
	}
}

// Each function answers a good question.
func TestNoErrors(t *testing.T) {
	expect(t, answers(autumn(), good()), api.OK, "autumn")
	for _, a := range answers(autumn(), good()) {
		if a.zero && !slices.Contains([]string{"Check", "Before", "Format", "Expired"}, a.function) {
			t.Errorf("%s has no result: %s", a.function, a.results)
		}
	}
	for _, n := range []int{1, 1000000000} {
		q := good()
		q.life = n
		l := []api.Move{in(20, 3, "peas", 50), free(20, 3)}
		expect(t, answers(l, q), api.OK, "the life ", n)
	}
	for _, at := range []int{0, 100000000} {
		q := good()
		q.at, q.life, q.numbers, q.lots = at, 1000000000, nil, []string{"beans"}
		for _, a := range ofBoth(autumn(), q) {
			if a.e != api.OK && (a.function != "Pick" || a.e != api.ErrNone) {
				t.Errorf("%s at %d: %d", a.function, at, a.e)
			}
		}
	}
}

func wrongTicks() []int { return []int{math.MinInt, -1, 100000001, math.MaxInt} }

// many makes n names, of no lots.
func many(n int) []string {
	var list []string
	for i := range n {
		list = append(list, fmt.Sprint("lot ", i))
	}
	return list
}

// count makes the numbers from 1 to n.
func count(n int) []int {
	var list []int
	for i := range n {
		list = append(list, 1+i)
	}
	return list
}

// wrongLists lists questions with a list that is wrong, with their errors. What else is wrong comes behind them.
func wrongLists() map[api.Errno][]question {
	wrong := make(map[api.Errno][]question)
	add := func(e api.Errno, lots []string, numbers []int) {
		q := good()
		q.lots, q.numbers = lots, numbers
		wrong[e] = append(wrong[e], q)
		q.cans, q.customer, q.at = 0, "Joe", 3
		wrong[e] = append(wrong[e], q)
	}
	add(api.ErrDuplicate, []string{"peas", "peas"}, []int{3, 3})
	add(api.ErrDuplicate, []string{"x", "", "y", ""}, []int{3, -1, 2, -1})
	add(api.ErrDuplicate, append(many(500), "lot 0"), append(count(500), 1))
	add(api.ErrDuplicate, append(many(600), "lot 599"), append(count(600), 600))
	add(api.ErrLimit, many(501), count(501))
	add(api.ErrLimit, many(70000), count(70000))
	return wrong
}

// R2, R3: too many moves come first, then the life and the ticks, then the ledger's error, then those of lists.
func TestErrorsInOrder(t *testing.T) {
	long := append(full(5000), api.Move{})
	wrongLedger := append(autumn(), hold(20, 99))
	questions := []question{good(), {}, {life: -1, at: -1, number: -1, cans: -1, lots: []string{"x", "x"}, numbers: []int{1, 1}}}
	for _, list := range wrongLists() {
		questions = append(questions, list...)
	}
	for _, q := range questions {
		expect(t, ofLedger(long, q), api.ErrLimit, "5,001 moves and ", q)
		for _, n := range wrongLives {
			q.life = n
			expect(t, ofLedger(autumn(), q), api.ErrRange, q)
			expect(t, ofLedger(wrongLedger, q), api.ErrRange, q)
			expect(t, ofLedger(long, q), api.ErrLimit, q)
		}
		q.life = life
		expect(t, slices.Concat(plain(wrongLedger, q), ofLots(wrongLedger, q)), api.ErrName, q)
		for _, at := range wrongTicks() {
			q.at = at
			expect(t, slices.Concat(ofTick(autumn(), q), ofBoth(autumn(), q)), api.ErrRange, q)
			expect(t, slices.Concat(ofTick(wrongLedger, q), ofBoth(wrongLedger, q)), api.ErrRange, q)
			expect(t, slices.Concat(ofTick(long, q), ofBoth(long, q)), api.ErrLimit, q)
			expect(t, slices.Concat(plain(wrongLedger, q), ofLots(wrongLedger, q)), api.ErrName, q)
		}
		q.at = 0
		expect(t, ofLedger(wrongLedger, q), api.ErrName, q)
	}
	for want, list := range wrongLists() {
		for _, q := range list {
			expect(t, slices.Concat(ofLots(autumn(), q), ofBoth(autumn(), q)), want, q)
		}
	}
}

// R2, R3: the ledger's error is that of Check.
func TestErrorsOfLedgers(t *testing.T) {
	for _, b := range badLedgers() {
		expect(t, ofLedger(b.l, good()), b.want, told(b.l))
	}
}

// Errors: lists have up to 500 names or numbers.
func TestLimitsOfLists(t *testing.T) {
	l := full(500)
	q := good()
	q.life, q.lots, q.at = 10000, append([]string{"lot3"}, many(499)...), 500
	expect(t, slices.Concat(ofLots(l, q), ofTick(l, q)), api.OK, "500 names")
	if got, e := store.FreeAll(q.life, l, q.lots, 500); len(got) != 571 || e != api.OK {
		t.Errorf("FreeAll = %d moves, %d", len(got), e)
	}
	l = full(1000)
	if got, e := store.Ship(10000, l, count(500), "joe", 1000); len(got) != 1500 || e != api.OK {
		t.Errorf("Ship = %d moves, %d", len(got), e)
	}
	if got, e := store.Pick(10000, l, q.lots, 1000, 1000); !slices.Equal(got, []int{4}) || e != api.OK {
		t.Errorf("Pick = %v, %d", got, e)
	}
	q.lots = append(q.lots, "one more")
	q.numbers = count(501)
	expect(t, slices.Concat(ofLots(l, q), ofBoth(l, q)), api.ErrLimit, "501 names")
}

// P9.1, R1, R7: every call ends, none panics, and a second call answers the same, whatever the arguments.
func TestExtremes(t *testing.T) {
	var ledgers [][]api.Move
	for _, b := range badLedgers() {
		ledgers = append(ledgers, b.l)
	}
	extremes := []int{math.MinInt, -1, 0, 1, 3, 7, 20, 100, 500, 1000000, 100000000, 1000000000, math.MaxInt}
	wild := []string{"", "a", "peas", "x", "Joe", "\xff\xfe", strings.Repeat("a", 1<<16)}
	goods := goodLedgers()
	for seed := range 1500 {
		r := randomness(seed)
		l := one(r, goods...)
		if seed%3 == 0 {
			l = one(r, ledgers...)
		}
		if seed%7 == 0 {
			l = nil
			for range r.IntN(20) {
				l = append(l, api.Move{At: one(r, extremes...), Pallet: one(r, extremes...), Kind: r.IntN(10) - 1, Where: one(r, wild...), Cans: one(r, extremes...)})
			}
		}
		q := question{life: life, number: one(r, extremes...), cans: one(r, extremes...), at: one(r, extremes...), lot: one(r, wild...), customer: one(r, wild...), m: wrongMove(r, l)}
		if seed%5 == 0 {
			q.life = one(r, extremes...)
		}
		for range r.IntN(5) {
			q.lots = append(q.lots, one(r, wild...))
			q.numbers = append(q.numbers, one(r, extremes...))
		}
		first, second := answers(l, q), answers(l, q)
		if !slices.Equal(first, second) {
			t.Errorf("two answers of %s: %v, %v", told(l), first, second)
		}
		for _, a := range first {
			if a.e != api.OK && !a.zero {
				t.Errorf("%s of %s has results with the error %d: %s", a.function, told(l), a.e, a.results)
			}
		}
	}
}

// R4: a nil list and an empty one are the same.
func TestEmptyLists(t *testing.T) {
	none, empty := good(), good()
	none.lots, none.numbers = nil, nil
	empty.lots, empty.numbers = []string{}, []int{}
	for _, l := range [][]api.Move{autumn(), {}} {
		if first, second := answers(l, none), answers(l, empty); !slices.Equal(first, second) {
			t.Errorf("two answers: %v, %v", first, second)
		}
	}
	if first, second := answers(nil, none), answers([]api.Move{}, empty); !slices.Equal(first, second) {
		t.Errorf("two answers: %v, %v", first, second)
	}
}

// results is what all functions return that is in memory.
type results struct {
	moves   [][]api.Move
	pallets []api.Pallet
	names   [][]string
	numbers [][]int
}

func resultsOf(l []api.Move, q question) results {
	added, _ := store.Add(q.life, l, q.m)
	shipped, _ := store.Ship(q.life, l, q.numbers, q.customer, q.at)
	same, _ := store.Ship(q.life, l, nil, q.customer, q.at)
	held, _ := store.HoldAll(q.life, l, q.lots, q.at)
	freed, _ := store.FreeAll(q.life, l, q.lots, q.at)
	parsed, _, _ := store.Parse(text)
	pallets, _ := store.Pallets(q.life, l)
	lots, _ := store.Lots(q.life, l)
	customers, _ := store.Customers(q.life, l)
	where, cans, _ := store.Where(q.life, l, q.lots)
	picked, _ := store.Pick(q.life, l, q.lots, q.cans, q.at)
	expired, _ := store.Expired(q.life, l, 200)
	history, _ := store.History(q.life, l, q.number)
	store.Check(q.life, l)
	store.Pallet(q.life, l, q.number)
	store.Account(q.life, l, q.lot)
	store.Found(q.life, l, q.lots, q.at)
	store.Format(l)
	return results{
		[][]api.Move{added, shipped, same, held, freed, parsed, store.Before(l, 12), store.Before(l, 1000)},
		pallets,
		[][]string{lots, customers, where},
		[][]int{cans, picked, expired, history},
	}
}

// spoil changes all memory of some lists, which must not be empty.
func spoil[T any](t *testing.T, lists ...[]T) {
	t.Helper()
	for i, l := range lists {
		if len(l) == 0 {
			t.Errorf("the result %d has nothing that could be shared", i)
		}
		clear(l[:cap(l)])
	}
}

// P9.1, R4: arguments are read only, also beyond their length, and no memory is shared.
func TestNothingIsShared(t *testing.T) {
	q := good()
	l := append(autumn(), hold(1, 1), api.Move{Where: "kept"})
	lots := append(q.lots, "kept", "corn")
	numbers := append(q.numbers, 99, 98)
	kept := fmt.Sprint(l, lots, numbers)
	q.lots, q.numbers = lots[:len(q.lots)], numbers[:len(q.numbers)]
	call := func() results { return resultsOf(l[:len(l)-2], q) }
	r := call()
	before := fmt.Sprint(r)
	// One list after another: what is not spoiled yet must be as it was.
	for i, moves := range r.moves {
		rest := fmt.Sprint(r.moves[i+1:])
		spoil(t, moves)
		if fmt.Sprint(r.moves[i+1:]) != rest {
			t.Errorf("the ledger %d shares memory with another", i)
		}
	}
	for i, list := range r.numbers {
		rest := fmt.Sprint(r.numbers[i+1:])
		spoil(t, list)
		if fmt.Sprint(r.numbers[i+1:]) != rest {
			t.Errorf("the list %d of numbers shares memory with another", i)
		}
	}
	spoil(t, r.pallets)
	spoil(t, r.names...)
	if fmt.Sprint(l, lots, numbers) != kept {
		t.Error("the arguments have changed")
	}
	if again := fmt.Sprint(call()); again != before {
		t.Errorf("results that were changed come back: %s, not %s", again, before)
	}
}
