package process_test

import (
	"fmt"
	"math"
	"slices"
	"testing"

	"cannery/api"
	"cannery/heat"
	"cannery/process"
	"cannery/retort"
)

// answers calls each function, and tells the results.
func answers(o oven, x load, baths []int, a, b int) string {
	s := ""
	add := func(results ...any) { s += fmt.Sprintln(results...) }
	l := []api.Schedule{x.s, x.s}
	add(process.ValidSchedules(l), process.Format(l), process.Word(a), o.proves(a), byBaths(o.c, o.k, o.initial, baths))
	index, e := process.Lookup(l, x.s.Product, a, b)
	add(index, e)
	program, e := process.Program(x.s, a, b, b, a)
	add(program, e)
	cook, e := process.Cook(a, b, a, b)
	add(len(cook), e)
	n, f, before, e := o.find()
	add(n, f, before, e)
	which, n, e := process.Best(o.c, o.k, x.spoiler, o.initial, baths, o.cold, o.cooling)
	add(which, n, e)
	f, e = process.Credited(o.c, o.k, o.initial, x.r, a)
	add(f, e)
	verdict, e := x.judge()
	add(verdict, e)
	n, e = o.mend(baths)
	add(n, e)
	return s
}

// P4.1, R1, R7: every call ends, none panics, and a second call answers the same, whatever the arguments.
func TestExtremes(t *testing.T) {
	ints := []int{math.MinInt, api.MinTemp - 1, -1, 0, 1, 2000, 2001, api.MaxTemp, api.MaxTemp + 1, math.MaxInt}
	wild := []api.Reading{{Step: math.MaxInt, Temp: math.MinInt, Chart: math.MaxInt, Bath: math.MinInt}, {Step: math.MinInt}, {Bath: math.MaxInt}}
	for i, c := range append(cans(), badCans()...) {
		for j, k := range append(killers(), badKillers()...) {
			a, b := ints[(i+3*j)%10], ints[(7*i+j)%10]
			o := oven{c, k, b, a, b, a}
			if i%2 == 0 {
				o = oven{c, k, 20000, 121000, a, 10}
			}
			x := with(func(x *load) { x.c, x.k, x.spoiler, x.initial, x.fill = c, k, k, a, b })
			if j%2 == 0 {
				x.s, x.r = badSchedules()[i+j], wild
			}
			for _, baths := range [][]int{nil, {a, b}, {121000, 110000}} {
				if first, second := answers(o, x, baths, a, b), answers(o, x, baths, a, b); first != second {
					t.Errorf("two answers: %s, %s", first, second)
				}
			}
		}
	}
	// and the slowest search: in turn, with much cooling, for nothing
	wantNone(t, oven{api.Can{Rings: 6, Layers: 8, Radial: 1, Break: 120000, Radial2: 1}, spores(), 20000, 110000, 110000, 300})
}

// P4.1, R4: arguments are read only, also beyond their length, and no memory is shared.
func TestNothingIsShared(t *testing.T) {
	baths, temps := numbers(9, 2, 90000, 120000), []int{121000, 125000, 130000, 7, 8}
	x, l := good(), append(shelf(), badSchedules()...)
	x.p, x.r = append(x.p, x.p...), append(x.r, x.r...)
	kept := fmt.Sprint(baths, temps, l, x)
	call := func() ([]int, []int, []api.Step, []api.Schedule, string) {
		places, _ := process.Places(tall(), weak(), 90000, baths[:6])
		cook, _ := process.Cook(121000, 2, 20000, 2)
		program, _ := process.Program(peas(), 100000, 5, 30000, 40)
		parsed, _, _ := process.Parse(text)
		y := x
		y.p, y.r, y.fill = x.p[:4], x.r[:10], 301
		verdict, _ := y.judge()
		index, _ := process.Lookup(l[:6], "peas", 50000, 250)
		which, n, _ := process.Best(tall(), weak(), vitamin(), 20000, temps[:3], 20000, 5)
		mended, _ := process.Mended(tall(), weak(), 20000, 121000, 20000, 5, baths[:6])
		credited, _ := process.Credited(tall(), weak(), 20000, y.r, 3)
		return places, cook, program, parsed, fmt.Sprint(process.Format(l[:6]), verdict, index, which, n, mended, credited, byBaths(tall(), weak(), 90000, baths[:6]))
	}
	places, cook, program, parsed, rest := call()
	before := fmt.Sprint(places, cook, program, parsed)
	spoil(places)
	spoil(cook)
	spoil(program)
	spoil(parsed)
	if fmt.Sprint(baths, temps, l, x) != kept {
		t.Error("the arguments have changed")
	}
	again, cookAgain, programAgain, parsedAgain, restAgain := call()
	if fmt.Sprint(again, cookAgain, programAgain, parsedAgain) != before || rest != restAgain {
		t.Error("results that were changed come back")
	}
}

// spoil changes all of a list's memory.
func spoil[T any](l []T) {
	clear(l[:cap(l)])
}

// P4.2
func TestTwoWays(t *testing.T) {
	for i, c := range cans() {
		for seed := range 12 {
			baths := numbers(40, seed, 80000, 120000)
			initial := numbers(1, seed+50, 60000, 110000)[0]
			l, _ := process.Places(c, weak(), initial, baths)
			place, f, e := process.Lethality(c, weak(), initial, baths)
			if e != api.OK || f != slices.Min(l) || place != slices.Index(l, f) {
				t.Errorf("Lethality = %d, %d, of %v", place, f, l)
			}
			cold, e := process.ByColdest(c, weak(), initial, baths)
			if e != api.OK || cold > f || heat.Stirred(c) && (cold != f || len(l) != 1 || l[0] != f) {
				t.Errorf("the can %d: ByColdest = %d, %d, Lethality = %d", i, cold, e, f)
			}
		}
	}
}

// P4.3, P3
func TestHotterIsMoreLethal(t *testing.T) {
	for _, c := range plain() {
		for seed := range 8 {
			baths, more := numbers(50, seed, 60000, 120000), numbers(51, seed+9, 0, 9000)
			hotter := slices.Clone(baths)
			for i := range hotter {
				hotter[i] += more[i] * (i % 2)
			}
			initial := numbers(1, seed+30, 40000, 100000)[0]
			colder, _ := process.Places(c, weak(), initial, baths)
			for _, l := range [][]int{
				placesOf(t, c, initial+more[50], baths),
				placesOf(t, c, initial, hotter),
				placesOf(t, c, initial+more[50], hotter),
			} {
				for place, f := range l {
					if f < colder[place] {
						t.Errorf("a place of %v has %d instead of %d", c, f, colder[place])
					}
				}
			}
		}
		for n := range 60 {
			o := oven{c, weak(), 70000, 108000, 60000 + n%3*20000, n % 20}
			if o.with(n, nil) > o.with(n+1, nil) {
				t.Errorf("%d ticks are more lethal than one more, in %v", n, o)
			}
		}
	}
}

func placesOf(t *testing.T, c api.Can, initial int, baths []int) []int {
	t.Helper()
	l, e := process.Places(c, weak(), initial, baths)
	if e != api.OK {
		t.Errorf("Places: %d", e)
	}
	return l
}

// P4.4, P5
func TestLeastIsProved(t *testing.T) {
	for _, o := range ovens() {
		n, f, before, e := o.find()
		if e != api.OK {
			continue
		}
		if !o.proves(n) || f < 20000000 || before >= 20000000 || n == 0 && before != -1 {
			t.Errorf("Least(%v) = %d, %d, %d", o, n, f, before)
		}
		if m, e := o.mend(nil); m != n || e != api.OK {
			t.Errorf("Mended(%v) = %d, %d, not %d", o, m, e, n)
		}
	}
}

// P4.5
func TestNoCreditForWhatIsNotShown(t *testing.T) {
	less := 0
	for _, c := range plain() {
		for seed := range 40 {
			r := recordOf(numbers(30, seed, 80000, 120000)...)
			if seed%2 == 0 {
				slices.SortFunc(r, func(a, b api.Reading) int { return a.Bath - b.Bath })
			}
			every := 1 + seed/2%7
			credit, _ := retort.Credit(r, every)
			if !below(credit, retort.Baths(r)) {
				continue
			}
			f, e := process.Credited(c, weak(), 70000, r, every)
			_, whole, _ := process.Lethality(c, weak(), 70000, retort.Baths(r))
			if e != api.OK || f > whole || every == 1 && f != whole {
				t.Errorf("Credited every %d = %d, %d; Lethality = %d", every, f, e, whole)
			}
			if f < whole {
				less++
			}
		}
	}
	if less < 10 {
		t.Errorf("less is credited only %d times", less)
	}
}

func below(a, b []int) bool {
	for i, n := range a {
		if n > b[i] {
			return false
		}
	}
	return true
}
