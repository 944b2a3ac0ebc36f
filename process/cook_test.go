package process_test

import (
	"math"
	"slices"
	"testing"

	"cannery/api"
	"cannery/process"
)

// 4.3
func TestCook(t *testing.T) {
	for _, c := range []struct {
		t, n, cold, cooling int
		want                []int
	}{
		{121000, 3, 20000, 2, []int{121000, 121000, 121000, 20000, 20000}},
		{121000, 0, 20000, 1, []int{20000}},
		{121000, 1, 20000, 0, []int{121000}},
		{api.MinTemp, 0, api.MaxTemp, 0, nil},
		{api.MaxTemp, 2000, api.MinTemp, 0, slices.Repeat([]int{api.MaxTemp}, 2000)},
		{api.MaxTemp, 0, api.MinTemp, 2000, slices.Repeat([]int{api.MinTemp}, 2000)},
		{0, 1999, -1, 1, append(make([]int, 1999), -1)},
	} {
		if l, e := process.Cook(c.t, c.n, c.cold, c.cooling); e != api.OK || !slices.Equal(l, c.want) {
			t.Errorf("Cook(%d, %d, %d, %d) = %v, %d", c.t, c.n, c.cold, c.cooling, l, e)
		}
	}
	for _, c := range [][4]int{
		{api.MaxTemp + 1, 1, 0, 1}, {api.MinTemp - 1, 0, 0, 0}, {0, -1, 0, 1}, {0, 2001, 0, 0}, {0, 1, api.MaxTemp + 1, 0}, {0, 1, api.MinTemp - 1, 1},
		{0, 1, 0, -1}, {0, 0, 0, 2001}, {0, 1, 0, 2000}, {0, 2000, 0, 1}, {0, 1001, 0, 1000}, {0, 2000, 0, 2000},
		{0, math.MaxInt, 0, math.MaxInt}, {0, math.MaxInt, 0, 1}, {0, math.MinInt, 0, math.MaxInt}, {math.MinInt, 0, math.MaxInt, 0},
	} {
		if l, e := process.Cook(c[0], c[1], c[2], c[3]); e != api.ErrRange || len(l) != 0 {
			t.Errorf("Cook(%v) = %v, %d", c, l, e)
		}
	}
}

// oven is what a least cook is looked for with.
type oven struct {
	c                         api.Can
	k                         api.Killer
	initial, t, cold, cooling int
}

// with returns the lethality of a can that was in some baths, and then cooked for n ticks.
func (o oven) with(n int, before []int) int {
	baths, _ := process.Cook(o.t, n, o.cold, o.cooling)
	_, f, _ := process.Lethality(o.c, o.k, o.initial, slices.Concat(before, baths))
	return f
}

// least looks at n = 0, 1, 2, .. up to most, in turn.
func (o oven) least(most int, before []int) int {
	needs := o.k.Goal * o.k.D * 1000000
	for n := range most + 1 {
		if o.with(n, before) >= needs {
			return n
		}
	}
	return -1
}

func (o oven) find() (n, f, before int, e api.Errno) {
	return process.Least(o.c, o.k, o.initial, o.t, o.cold, o.cooling)
}

func (o oven) mend(before []int) (int, api.Errno) {
	return process.Mended(o.c, o.k, o.initial, o.t, o.cold, o.cooling, before)
}

func (o oven) proves(n int) bool {
	return process.Proved(o.c, o.k, o.initial, o.t, o.cold, o.cooling, n)
}

func wantLeast(t *testing.T, o oven, n, f, before int) {
	t.Helper()
	if m, g, b, e := o.find(); m != n || g != f || b != before || e != api.OK {
		t.Errorf("Least(%v) = %d, %d, %d, %d, not %d, %d, %d", o, m, g, b, e, n, f, before)
	}
	if m, e := o.mend(nil); m != n || e != api.OK {
		t.Errorf("Mended(%v) = %d, %d, not %d", o, m, e, n)
	}
	if !o.proves(n) {
		t.Errorf("%d is not proved for %v", n, o)
	}
}

func wantNone(t *testing.T, o oven) {
	t.Helper()
	if n, f, before, e := o.find(); n != 0 || f != 0 || before != 0 || e != api.ErrNone {
		t.Errorf("Least(%v) = %d, %d, %d, %d", o, n, f, before, e)
	}
	if n, e := o.mend(nil); n != 0 || e != api.ErrNone {
		t.Errorf("Mended(%v) = %d, %d", o, n, e)
	}
}

// needing is a killer that needs n ticks at 121,000.
func needing(n int) api.Killer { return api.Killer{Name: "n", Ref: 484, Z: 40, D: n, Goal: 1} }

// The example, and every number of ticks there is.
func TestLeastOfTicks(t *testing.T) {
	wantLeast(t, oven{stirred(), spores(), 121000, 121000, 20000, 0}, 156, 156000000, 155000000)
	for _, n := range append(numbers(40, 9, 1, 2000), 1, 2, 44, 45, 46, 89, 90, 91, 1979, 1980, 1981, 1998, 1999, 2000) {
		wantLeast(t, oven{tall(), needing(n), 121000, 121000, 20000, 0}, n, n*1000000, (n-1)*1000000)
	}
	wantNone(t, oven{tall(), needing(2001), 121000, 121000, 20000, 0})
	// the cooling takes ticks away
	for _, cooling := range []int{1, 19, 20, 21, 45, 1999} {
		o := oven{swift(), needing(2000 - cooling), 20000, 121000, 20000, cooling}
		wantLeast(t, o, 2000-cooling, (2000-cooling)*1000000, (1999-cooling)*1000000)
		o.k = needing(2001 - cooling)
		wantNone(t, o)
	}
	wantNone(t, oven{swift(), needing(1), 20000, 121000, 20000, 2000})
}

// 4.3: the cooling counts too; it may be all that is needed, and then there is no tick less.
func TestLeastIsNone(t *testing.T) {
	wantLeast(t, oven{swift(), needing(10), 20000, 121000, 121000, 10}, 0, 10000000, -1)
	wantLeast(t, oven{swift(), needing(10), 20000, 121000, 121000, 9}, 1, 10000000, 9000000)
	wantLeast(t, oven{swift(), needing(10), 20000, api.MinTemp, 121000, 2000}, 0, 2000000000, -1)
	wantLeast(t, oven{swift(), needing(10), 20000, 111000, 121000, 9}, 10, 10000000, 9900000)
	wantNone(t, oven{swift(), needing(10), 20000, 20000, 121000, 9})
	wantNone(t, oven{large(), spores(), 20000, 30000, 20000, 10})
}

func ovens() []oven {
	var l []oven
	for i, c := range cans() {
		for j, initial := range []int{20000, 96000, 124000} {
			for m, at := range []int{100500, 103000, 108000} {
				cooling := []int{0, 1, 30, 60}[(i+j+m)%4]
				l = append(l, oven{c, weak(), initial, at, []int{15000, 90000, 99000}[(i+2*j+m)%3], cooling})
			}
		}
	}
	return l
}

// 4.3, P4.4, P5: checked against the cooks one by one.
func TestLeast(t *testing.T) {
	found := 0
	for _, o := range ovens() {
		want := o.least(220, nil)
		n, f, before, e := o.find()
		if want < 0 {
			if e == api.OK && n <= 220 {
				t.Errorf("Least(%v) = %d", o, n)
			}
			continue
		}
		found++
		less := -1
		if want > 0 {
			less = o.with(want-1, nil)
		}
		if e != api.OK || n != want || f != o.with(want, nil) || before != less {
			t.Errorf("Least(%v) = %d, %d, %d, %d, not %d", o, n, f, before, e, want)
		}
		if m, e := o.mend(nil); m != want || e != api.OK {
			t.Errorf("Mended(%v) = %d, %d, not %d", o, m, e, want)
		}
		if !o.proves(want) {
			t.Errorf("%d is not proved for %v", want, o)
		}
	}
	if found < 35 {
		t.Errorf("only %d cooks were found", found)
	}
}

// The details: the least n counts also where more ticks are less lethal. Here a can that breaks in the cook cools faster: what it had from the cooling is lost, and takes long to come again.
func TestLeastBeforeABreak(t *testing.T) {
	k := api.Killer{Name: "soft", Ref: 400, Z: 30, D: 189, Goal: 1}
	o := oven{api.Can{Rings: 1, Layers: 1, Radial: 1, Break: 100000, Radial2: 500}, k, 99800, 101000, 85000, 250}
	var changes []int // where it becomes sterile, or no longer is
	sterile := false
	for n := range 200 {
		is := o.with(n, nil) >= 189000000
		if is != sterile {
			changes = append(changes, n)
		}
		if o.proves(n) != (is && !sterile) {
			t.Errorf("Proved(%d) is %t", n, o.proves(n))
		}
		sterile = is
	}
	if len(changes) != 3 || changes[1] != 100 || changes[2] < 160 {
		t.Fatalf("the can changes at %v", changes)
	}
	n := changes[0]
	wantLeast(t, o, n, o.with(n, nil), o.with(n-1, nil))
}

// Ticks in a bath that is colder than the can make it less lethal, too.
func TestLeastInAColderBath(t *testing.T) {
	o := oven{stirred(), weak(), 104000, 80000, 101000, 6}
	if o.with(0, nil) < 20000000 || o.with(1, nil) >= 20000000 || o.with(500, nil) >= 20000000 {
		t.Error("it is sterile otherwise")
	}
	wantLeast(t, o, 0, o.with(0, nil), -1)
	o.k.D = 6
	wantNone(t, o)
}

// 4.3
func TestProved(t *testing.T) {
	o := oven{stirred(), spores(), 121000, 121000, 20000, 0}
	for n, want := range map[int]bool{156: true, 155: false, 157: false, 0: false, 1: false, 2000: false, 2001: false, -1: false, math.MinInt: false, math.MaxInt: false} {
		if o.proves(n) != want {
			t.Errorf("Proved(%d) is %t", n, !want)
		}
	}
	o = oven{swift(), needing(10), 20000, 121000, 121000, 10}
	if !o.proves(0) || o.proves(1) || o.proves(1990) || o.proves(1991) {
		t.Error("Proved where the cooling is enough")
	}
	o = oven{swift(), needing(1999), 20000, 121000, 20000, 1}
	if !o.proves(1999) || o.proves(2000) {
		t.Error("Proved at the most ticks")
	}
	for _, o := range badOvens() {
		for _, n := range []int{0, 1, 100} {
			if o.proves(n) {
				t.Errorf("Proved(%d) of %v", n, o)
			}
		}
	}
}

// badOvens have an argument each that is wrong; they would be sterile soon otherwise.
func badOvens() []oven {
	o := oven{swift(), needing(1), 121000, 121000, 121000, 1}
	l := slices.Concat(
		changed(o, func(o *oven, n int) { o.initial = n }, math.MinInt, api.MinTemp-1, api.MaxTemp+1, math.MaxInt),
		changed(o, func(o *oven, n int) { o.t = n }, math.MinInt, api.MinTemp-1, api.MaxTemp+1, math.MaxInt),
		changed(o, func(o *oven, n int) { o.cold = n }, math.MinInt, api.MinTemp-1, api.MaxTemp+1, math.MaxInt),
		changed(o, func(o *oven, n int) { o.cooling = n }, math.MinInt, -1, 2001, math.MaxInt),
		changed(o, func(o *oven, n int) { o.c = badCans()[n] }, 0, 1, 2, 3, 4, 5),
		changed(o, func(o *oven, n int) { o.k = badKillers()[n] }, 0, 1, 2, 3, 4, 5),
	)
	return append(l, oven{c: api.Can{}, k: spores(), initial: math.MaxInt}, oven{c: swift(), initial: math.MaxInt})
}

// 4.3, 4.4, R2, R3
func TestLeastErrors(t *testing.T) {
	many := slices.Repeat([]int{0}, 2001)
	for _, o := range badOvens() {
		want := api.ErrRange
		if slices.Contains(badCans(), o.c) || slices.Contains(badKillers(), o.k) || o.k == (api.Killer{}) {
			want = api.ErrInvalid
		}
		if n, f, before, e := o.find(); n != 0 || f != 0 || before != 0 || e != want {
			t.Errorf("Least(%v) = %d, %d, %d, %d", o, n, f, before, e)
		}
		for _, before := range [][]int{nil, {121000}, many, {api.MaxTemp + 1}} {
			if n, e := o.mend(before); n != 0 || e != want {
				t.Errorf("Mended(%v) = %d, %d", o, n, e)
			}
		}
		for _, temps := range [][]int{{o.t}, {121000, o.t}, append(slices.Clone(many[:64]), o.t)} {
			if which, n, e := process.Best(o.c, o.k, vitamin(), o.initial, temps, o.cold, o.cooling); which != 0 || n != 0 || e != want {
				t.Errorf("Best(%v) = %d, %d, %d", o, which, n, e)
			}
		}
	}
}

// spoils returns what a cook of n ticks spoils.
func (o oven) spoils(spoiler api.Killer, n int) int {
	baths, _ := process.Cook(o.t, n, o.cold, o.cooling)
	f, _ := process.Spoiled(o.c, spoiler, o.initial, baths)
	return f
}

// 4.3: checked against Least and Spoiled.
func TestBest(t *testing.T) {
	temps := []int{104000, 106000, 110000, 99000, 110000, 116000, 180000}
	chosen := map[int]int{}
	for i, c := range cans() {
		for _, spoiler := range []api.Killer{{Name: "colour", Ref: 440, Z: 25, D: 1, Goal: 1}, {Name: "quick", Ref: 440, Z: 8, D: 1, Goal: 1}} {
			o := oven{c, weak(), 30000, 0, 20000, 20 * i}
			want, ticks, least := -1, 0, 0
			for at, temp := range temps {
				o.t = temp
				n, _, _, e := o.find()
				if e == api.OK && (want < 0 || o.spoils(spoiler, n) < least) {
					want, ticks, least = at, n, o.spoils(spoiler, n)
				}
			}
			which, n, e := process.Best(c, weak(), spoiler, 30000, temps, 20000, 20*i)
			if which != want || n != ticks || e != api.OK {
				t.Errorf("Best(%v, %v) = %d, %d, %d, not %d, %d", c, spoiler, which, n, e, want, ticks)
			}
			chosen[which]++
		}
	}
	if len(chosen) < 3 {
		t.Errorf("the same are chosen always: %v", chosen)
	}
}

// 4.3: the first of several; those without a least cook do not count; at most 64.
func TestBestOfSome(t *testing.T) {
	for _, c := range []struct {
		temps []int
		which int
		n     int
		e     api.Errno
	}{
		{nil, 0, 0, api.ErrNone},
		{[]int{}, 0, 0, api.ErrNone},
		{[]int{20000}, 0, 0, api.ErrNone},
		{[]int{20000, 30000, api.MinTemp}, 0, 0, api.ErrNone},
		{[]int{121000}, 0, 10, api.OK},
		{[]int{20000, 121000}, 1, 10, api.OK},
		{[]int{20000, 121000, 20000, 121000}, 1, 10, api.OK},
		// a tick at 131,000 spoils 4.64 times as much as one at 121,000, one at 136,000 ten times as much
		{[]int{121000, 131000, 121000, 131000}, 1, 1, api.OK},
		{[]int{121000, 136000}, 0, 10, api.OK},
		{[]int{136000, 121000}, 0, 1, api.OK},
		{slices.Repeat([]int{121000}, 64), 0, 10, api.OK},
		{slices.Repeat([]int{121000}, 65), 0, 0, api.ErrLimit},
		{slices.Repeat([]int{20000}, 65), 0, 0, api.ErrLimit},
		{append(slices.Repeat([]int{20000}, 65), api.MaxTemp+1), 0, 0, api.ErrRange},
		{[]int{121000, api.MinTemp - 1}, 0, 0, api.ErrRange},
	} {
		which, n, e := process.Best(swift(), needing(10), vitamin(), 20000, c.temps, 20000, 0)
		if which != c.which || n != c.n || e != c.e {
			t.Errorf("Best of %v = %d, %d, %d", c.temps, which, n, e)
		}
	}
	for _, k := range badKillers() {
		if which, n, e := process.Best(swift(), needing(1), k, math.MaxInt, slices.Repeat([]int{-1}, 65), 20000, -1); which != 0 || n != 0 || e != api.ErrInvalid {
			t.Errorf("Best with the spoiler %v = %d, %d, %d", k, which, n, e)
		}
	}
}

// 4.4: checked against the cooks one by one.
func TestMended(t *testing.T) {
	found := 0
	for _, o := range ovens() {
		for _, before := range [][]int{{20000}, slices.Repeat([]int{125000}, 12), numbers(70, 5, 20000, 128000)} {
			want := o.least(120, before)
			n, e := o.mend(before)
			switch {
			case want < 0 && e == api.OK && n <= 120:
				t.Errorf("Mended(%v) = %d", o, n)
			case want >= 0 && (n != want || e != api.OK):
				t.Errorf("Mended(%v) = %d, %d, not %d", o, n, e, want)
			case want > 0:
				found++
			}
		}
	}
	if found < 50 {
		t.Errorf("only %d cooks were mended", found)
	}
}

// 4.4: up to MaxRun ticks in all.
func TestMendedAtTheEnd(t *testing.T) {
	hot := slices.Repeat([]int{121000}, 2001)
	for _, c := range []struct {
		needs   int
		cooling int
		before  []int
		n       int
		e       api.Errno
	}{
		{2000, 0, hot[:1000], 1000, api.OK},
		{2000, 0, hot[:1990], 10, api.OK},
		{2000, 0, hot[:2000], 0, api.OK},
		{2001, 0, hot[:2000], 0, api.ErrNone},
		{2001, 0, hot[:1000], 0, api.ErrNone},
		{1900, 100, hot[:1000], 900, api.OK},
		{1900, 100, hot[:1899], 1, api.OK},
		{1900, 100, hot[:1900], 0, api.OK},
		{1900, 101, hot[:1000], 0, api.ErrNone},
		// the baths and the cooling alone are too many
		{1900, 100, hot[:1901], 0, api.ErrNone},
		{1, 1, hot[:2000], 0, api.ErrNone},
		{1, 2000, hot[:2000], 0, api.ErrNone},
		{1, 2000, nil, 0, api.ErrNone},
		{1, 2000, hot[:1], 0, api.ErrNone},
		{1, 0, hot, 0, api.ErrLimit},
		{1, 2000, hot, 0, api.ErrLimit},
		{1, -1, hot, 0, api.ErrRange},
		{1, 2001, hot, 0, api.ErrRange},
		{1, 0, append(slices.Clone(hot), api.MaxTemp+1), 0, api.ErrRange},
		{1, 0, []int{api.MinTemp - 1}, 0, api.ErrRange},
	} {
		n, e := process.Mended(swift(), needing(c.needs), 20000, 121000, 20000, c.cooling, c.before)
		if n != c.n || e != c.e {
			t.Errorf("Mended behind %d, before %d, for %d = %d, %d, not %d, %d", len(c.before), c.cooling, c.needs, n, e, c.n, c.e)
		}
	}
}

// In a bath that is colder than the cooling more ticks may be less lethal: here the can is sterile with some ticks alone.
func TestMendedInAColderBath(t *testing.T) {
	k := api.Killer{Name: "soft", Ref: 400, Z: 40, D: 82, Goal: 1}
	o := oven{api.Can{Rings: 2, Layers: 3, Radial: 10, Axial: 3}, k, 101000, 66000, 102500, 26}
	before := slices.Repeat([]int{128500}, 17)
	want := o.least(44, before)
	if want < 1 || o.with(0, before) >= 82000000 || o.with(45, before) >= 82000000 || o.with(1900, before) >= 82000000 {
		t.Errorf("it is sterile otherwise: %d", want)
	}
	if n, e := o.mend(before); n != want || e != api.OK {
		t.Errorf("Mended(%v) = %d, %d, not %d", o, n, e, want)
	}
}
