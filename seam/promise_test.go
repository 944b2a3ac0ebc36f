package seam_test

import (
	"fmt"
	"math"
	"slices"
	"testing"

	"cannery/api"
	"cannery/seam"
)

// answers calls each function, and tells the results.
func answers(n api.Norm, l []api.Sheet, a, b, c, d int) string {
	s := ""
	add := func(results ...any) { s += fmt.Sprintln(results...) }
	var x api.Sheet
	if len(l) > 0 {
		x = l[len(l)-1]
	}
	stretches := []api.Stretch{{From: a, To: b}, {From: c, To: d}, {From: b, To: d}}
	list := []int{a, b, c, d, a, b, c, d}
	add(seam.ValidSheet(x), seam.ValidSheets(l), seam.ValidNorm(n), seam.Heads(l), seam.Union(stretches), seam.Length(stretches), seam.Format(l))
	overlap, e := seam.Overlap(x)
	add(overlap, e)
	percent, e := seam.Percent(x)
	add(percent, e)
	ok, e := seam.Good(n, x)
	add(ok, e)
	words, e := seam.Faults(n, x)
	add(words, e)
	held, e := seam.Suspect(n, l, a, b, c)
	add(held, e)
	held, e = seam.Held(n, l, a, b, c)
	add(held, e)
	ok, e = seam.Safe(n, l, a, b)
	add(ok, e)
	held, e = seam.Overdue(l, a, d, b, c)
	add(held, e)
	ticks, e := seam.Added(n, l, a, b, c, d)
	add(ticks, e)
	means, ranges, e := seam.Means(list, a)
	add(means, ranges, e)
	chart, e := seam.Learn(list)
	add(chart, e)
	signals, e := seam.Signals(api.Chart{Middle: a, Sigma: b}, list, []int{c, d})
	add(signals, e)
	return s
}

// P5.1, R1, R7: every call ends, none panics, and a second call answers the same, whatever the arguments.
func TestExtremes(t *testing.T) {
	ints := []int{math.MinInt, -1000000001, -1, 0, 1, 2, 3, 12, 13, 100, 101, 2000, 2001, 100000000, 100000001, 1000000000, math.MaxInt}
	lists := append(badLists(), nil, sheets(), many(40), teardowns(30, 1))
	norms := append(badNorms(), norm(), wide(), api.Norm{})
	for i := range 12000 {
		at := numbers(6, i, 0, 1000)
		pick := func(n int) int { return ints[at[n]%len(ints)] }
		n, l := norms[at[4]%len(norms)], lists[at[5]%len(lists)]
		if i%2 == 0 {
			n, l = norm(), lists[len(lists)-1-at[5]%4]
		}
		if first, second := answers(n, l, pick(0), pick(1), pick(2), pick(3)), answers(n, l, pick(0), pick(1), pick(2), pick(3)); first != second {
			t.Errorf("two answers: %s, %s", first, second)
		}
	}
}

// P5.1, R4: arguments are read only, also beyond their length, and no memory is shared.
func TestNothingIsShared(t *testing.T) {
	l := append(teardowns(40, 1), badSheets()...)
	s := append(stretches(7, 9, 1, 3, 8, 12), stretches(math.MinInt, 0, 5, 6)...)
	values, adjusted := append(walk(40, 3), math.MaxInt, math.MinInt), []int{3, 20, -5, math.MaxInt}
	kept := fmt.Sprint(l, s, values, adjusted)
	call := func() (lists [][]int, unions [][]api.Stretch, words []string, parsed []api.Sheet, signals [][2]int) {
		sheets := l[:30]
		suspect, _ := seam.Suspect(norm(), sheets, 1, 0, 60)
		held, _ := seam.Held(norm(), sheets, 2, 0, 60)
		overdue, _ := seam.Overdue(sheets, 2, 5, 0, 60)
		added, _ := seam.Added(norm(), sheets, 2, 0, 60, 3)
		means, ranges, _ := seam.Means(values[:40], 1)
		words, _ = seam.Faults(norm(), api.Sheet{Head: 1, EndPlate: 1, BodyPlate: 1, Wrinkle: 50})
		parsed, _, _ = seam.Parse(seam.Format(sheets))
		signals, _ = seam.Signals(api.Chart{Middle: 100, Sigma: 10}, values[:40], adjusted[:2])
		seam.Length(s[:3])
		seam.Learn(values[:40])
		seam.Safe(norm(), sheets, 2, 30)
		return [][]int{seam.Heads(sheets), added, means, ranges}, [][]api.Stretch{suspect, held, overdue, seam.Union(s[:3])}, words, parsed, signals
	}
	lists, unions, words, parsed, signals := call()
	before := fmt.Sprint(lists, unions, words, parsed, signals)
	want, _, _, _, _ := call()
	spoil(lists[2])
	if !slices.Equal(lists[3], want[3]) {
		t.Error("means and ranges share memory")
	}
	for i := range lists {
		spoil(lists[i])
		spoil(unions[i])
	}
	spoil(words)
	spoil(parsed)
	spoil(signals)
	if fmt.Sprint(l, s, values, adjusted) != kept {
		t.Error("the arguments have changed")
	}
	lists, unions, words, parsed, signals = call()
	if fmt.Sprint(lists, unions, words, parsed, signals) != before {
		t.Error("results that were changed come back")
	}
	for _, m := range [][]int{lists[0], lists[1], lists[2]} {
		if len(m) == 0 {
			t.Error("a result has nothing that could be shared")
		}
	}
	if len(unions[0]) == 0 || len(unions[1]) == 0 || len(unions[2]) == 0 || len(words) == 0 || len(signals) == 0 {
		t.Error("a result has nothing that could be shared")
	}
}

// spoil changes all of a list's memory.
func spoil[T any](l []T) {
	clear(l[:cap(l)])
}

// P5.2, P6: what is held is just what is not safe; and a bad sheet reaches back to the last good one.
func TestNothingSlips(t *testing.T) {
	reached := 0
	for seed := range 100 {
		l, heads := teardowns(10+seed/2, seed), 1+seed%4
		for _, w := range windows {
			held, _ := seam.Held(norm(), l, heads, w[0], w[1])
			if !apart(held) {
				t.Errorf("Held = %v", held)
			}
			for tick := range 65 {
				ok, _ := seam.Safe(norm(), l, heads, tick)
				if want := w[0] <= tick && tick < w[1] && !ok; has(held, tick) != want {
					t.Errorf("the tick %d of %v is held: %t", tick, l, !want)
				}
			}
			for _, x := range l {
				if good(x) || x.Head > heads || x.Tick < w[0] || x.Tick >= w[1] {
					continue
				}
				for tick := x.Tick; tick >= w[0]; tick-- {
					if !has(held, tick) {
						t.Errorf("the tick %d before %v is not held", tick, x)
					}
					if slices.Contains(l, sheet(tick, x.Head)) {
						break
					}
					reached++
				}
			}
		}
	}
	if reached < 1000 {
		t.Errorf("bad sheets reach back %d ticks", reached)
	}
}

// covers reports whether a stretch of l lies around each one of m.
func covers(l, m []api.Stretch) bool {
	for _, s := range m {
		if !slices.ContainsFunc(l, func(x api.Stretch) bool { return x.From <= s.From && s.To <= x.To }) {
			return false
		}
	}
	return true
}

// P5.3
func TestMoreSheetsAndHeads(t *testing.T) {
	less := 0
	for seed := range 100 {
		l := teardowns(10+seed/2, seed)
		for heads := 1; heads <= 4; heads++ {
			held, _ := seam.Held(norm(), l, heads, 0, 60)
			if more, e := seam.Held(norm(), l, heads+1, 0, 60); !covers(more, held) || e != api.OK {
				t.Errorf("of %d heads are held %v, of one more %v", heads, held, more)
			}
			for tick := 0; tick < 60; tick += 3 {
				fewer, e := seam.Held(norm(), torn(l, heads, tick), heads, 0, 60)
				if !covers(held, fewer) || e != api.OK {
					t.Errorf("with a good sheet at %d are held %v, not %v", tick, fewer, held)
				}
				if !slices.Equal(held, fewer) {
					less++
				}
			}
		}
	}
	if less < 100 {
		t.Errorf("less is held only %d times", less)
	}
}

// P5.5
func TestLongerHooks(t *testing.T) {
	for seed := range 500 {
		l, p := numbers(3, seed, 0, 4000), numbers(2, seed, 1, 500)
		x := api.Sheet{Head: 1, BodyHook: l[0], CoverHook: l[1], Height: l[2], EndPlate: p[0], BodyPlate: p[1]}
		overlap, _ := seam.Overlap(x)
		percent, _ := seam.Percent(x)
		for _, more := range []int{1, 2, 17, 16000} {
			body, cover := x, x
			body.BodyHook += more
			cover.CoverHook += more
			for _, y := range []api.Sheet{body, cover} {
				longer, e := seam.Overlap(y)
				if longer < overlap || e != api.OK {
					t.Errorf("the overlap of %v is %d, of %v %d", x, overlap, y, longer)
				}
				if longer, e := seam.Percent(y); longer < percent || e != api.OK {
					t.Errorf("the per cent of %v is %d, of %v %d", x, percent, y, longer)
				}
			}
		}
	}
}

// P5.5
func TestAddedLeavesLess(t *testing.T) {
	for seed := range 100 {
		l, heads := teardowns(5+seed/2, seed), 1+seed%4
		ticks, e := seam.Added(norm(), l, heads, 4, 55, 3)
		if e != api.OK || len(ticks) > 3 {
			t.Errorf("Added = %v, %d", ticks, e)
		}
		for _, tick := range ticks {
			m := torn(l, heads, tick)
			held, _ := seam.Held(norm(), l, heads, 4, 55)
			left, _ := seam.Held(norm(), m, heads, 4, 55)
			if tick < 4 || tick > 55 || seam.Length(left) >= seam.Length(held) {
				t.Errorf("with %d are held %v, without it %v", tick, left, held)
			}
			l = m
		}
	}
}
