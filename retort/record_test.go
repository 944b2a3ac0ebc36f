package retort_test

import (
	"math"
	"slices"
	"testing"

	"cannery/api"
	"cannery/retort"
)

// cooks is a program with two cooks side by side, and ventings.
func cooks() []api.Step {
	return []api.Step{{Kind: api.KVent, Set: 1000, Ticks: 2}, {Kind: api.KCook, Set: 1200, Ticks: 4}, {Kind: api.KCook, Set: 1100, Ticks: 2}, {Kind: api.KVent, Set: 500}, {Kind: api.KCool, Set: 300, Ticks: 1}}
}

// read makes a record of pairs: a step and a temperature.
func read(l ...[2]int) []api.Reading {
	var r []api.Reading
	for _, x := range l {
		r = append(r, api.Reading{Step: x[0], Temp: x[1], Chart: x[1], Bath: x[1] - 10})
	}
	return r
}

// whole is a whole record of cooks.
func whole() []api.Reading {
	return read([2]int{0, 900}, [2]int{0, 1000}, [2]int{1, 1199}, [2]int{1, 1200}, [2]int{1, 1150}, [2]int{1, 1099}, [2]int{2, 1099}, [2]int{2, 1100}, [2]int{3, 500}, [2]int{4, 90})
}

func badRecords() [][]api.Reading {
	l := [][]api.Reading{
		read([2]int{1, 1200}),
		read([2]int{-1, 1200}),
		read([2]int{0, 900}, [2]int{2, 1200}),
		read([2]int{0, 900}, [2]int{1, 1200}, [2]int{0, 900}),
		append(whole(), read([2]int{5, 90})...),
		slices.Repeat(read([2]int{0, 900}), 2001),
	}
	for i := range whole() {
		for _, n := range []int{math.MinInt, -1000001, 1000001, math.MaxInt} {
			for _, set := range []func(x *api.Reading){
				func(x *api.Reading) { x.Step = n },
				func(x *api.Reading) { x.Temp = n },
				func(x *api.Reading) { x.Chart = n },
				func(x *api.Reading) { x.Bath = n },
			} {
				r := whole()
				set(&r[i])
				l = append(l, r)
			}
		}
	}
	return l
}

// 3.3
func TestValidRecord(t *testing.T) {
	r := whole()
	r[0] = api.Reading{Temp: -1000000, Chart: 1000000, Bath: -1000000}
	r[9] = api.Reading{Step: 4, Temp: 1000000, Chart: -1000000, Bath: 1000000}
	for n := range len(r) + 1 {
		if !retort.ValidRecord(cooks(), r[:n]) {
			t.Errorf("%v is not valid", r[:n])
		}
		if retort.Whole(cooks(), r[:n]) != (n == 10) {
			t.Errorf("%v is whole: %t", r[:n], n != 10)
		}
	}
	long := slices.Repeat(read([2]int{0, 900}), 2000)
	if !retort.ValidRecord(cooks(), long) || retort.Whole(cooks(), long) || !retort.Whole(cooks()[:1], long) {
		t.Error("a record of 2,000 readings")
	}
	for _, r := range badRecords() {
		if retort.ValidRecord(cooks(), r) || retort.Whole(cooks(), r) {
			t.Errorf("%v is valid", r)
		}
	}
	for _, p := range badPrograms() {
		for _, r := range [][]api.Reading{nil, read([2]int{0, 900}), whole()} {
			if retort.ValidRecord(p, r) || retort.Whole(p, r) {
				t.Errorf("%v is valid for %v", r, p)
			}
		}
	}
	if retort.Whole(cooks(), nil) || !retort.Whole(cooks()[:1], read([2]int{0, 900})) {
		t.Error("the least whole record")
	}
	// what a step lacks can't be seen, but a step that lacks can
	if retort.Whole(cooks(), whole()[:9]) || retort.Whole(cooks()[1:], whole()[2:]) {
		t.Error("a record that lacks an end or begins late is whole")
	}
}

// 3.3
func TestBaths(t *testing.T) {
	if l := retort.Baths(whole()[:3]); !slices.Equal(l, []int{890, 990, 1189}) {
		t.Errorf("Baths = %v", l)
	}
	for _, r := range [][]api.Reading{nil, {}} {
		if l := retort.Baths(r); len(l) != 0 {
			t.Errorf("Baths of nothing = %v", l)
		}
	}
	// any records
	if l := retort.Baths([]api.Reading{{Step: -5, Bath: math.MaxInt}, {Step: 99, Bath: math.MinInt}}); !slices.Equal(l, []int{math.MaxInt, math.MinInt}) {
		t.Errorf("Baths = %v", l)
	}
	if l := retort.Baths(slices.Repeat(whole(), 1000)); len(l) != 10000 || l[9990] != 890 {
		t.Error("Baths of a long record")
	}
}

// 3.3
func TestPart(t *testing.T) {
	for step, want := range [][2]int{{0, 2}, {2, 6}, {6, 8}, {8, 9}, {9, 10}} {
		if from, to, e := retort.Part(cooks(), whole(), step); from != want[0] || to != want[1] || e != api.OK {
			t.Errorf("Part(%d) = %d, %d, %d", step, from, to, e)
		}
	}
	if from, to, e := retort.Part(cooks(), whole()[:3], 1); from != 2 || to != 3 || e != api.OK {
		t.Errorf("Part = %d, %d, %d", from, to, e)
	}
	for step, want := range map[int]api.Errno{2: api.ErrNone, 4: api.ErrNone, 5: api.ErrRange, -1: api.ErrRange, math.MinInt: api.ErrRange, math.MaxInt: api.ErrRange} {
		for _, r := range [][]api.Reading{whole()[:6], nil} {
			if from, to, e := retort.Part(cooks(), r, step); from != 0 || to != 0 || e != want {
				t.Errorf("Part(%v, %d) = %d, %d, %d", r, step, from, to, e)
			}
		}
	}
}

// 3.4, P4
func TestVented(t *testing.T) {
	for _, c := range []struct {
		r    []api.Reading
		want bool
	}{
		{whole(), true},
		{nil, false},
		{whole()[:2], false}, // the second venting lacks
		{whole()[:8], false},
		{whole()[:9], true},
		{read([2]int{0, 1000}, [2]int{1, 1200}, [2]int{2, 1100}, [2]int{3, 500}), false},
		{read([2]int{0, 1000}, [2]int{0, 999}, [2]int{1, 1200}, [2]int{2, 1100}, [2]int{3, 500}), false},
		{read([2]int{0, 0}, [2]int{0, 0}, [2]int{0, 1001}, [2]int{1, 1200}, [2]int{2, 1100}, [2]int{3, 500}), true},
		{read([2]int{0, 0}, [2]int{0, 1000}, [2]int{1, 0}, [2]int{2, 0}, [2]int{3, 499}), false},
		{read([2]int{0, 0}, [2]int{0, 1000}, [2]int{1, 0}, [2]int{2, 0}, [2]int{3, 501}, [2]int{3, 499}), false},
		{read([2]int{0, 0}, [2]int{0, 1000}, [2]int{1, 0}, [2]int{2, 0}, [2]int{3, 499}, [2]int{3, 500}, [2]int{4, 0}), true},
	} {
		if ok, e := retort.Vented(cooks(), c.r); ok != c.want || e != api.OK {
			t.Errorf("Vented(%v) = %t, %d", c.r, ok, e)
		}
	}
	for _, r := range [][]api.Reading{nil, read([2]int{0, -5})} {
		if ok, e := retort.Vented(usual()[1:], r); !ok || e != api.OK {
			t.Errorf("without venting: %t, %d", ok, e)
		}
	}
}

// 3.4
func TestCooked(t *testing.T) {
	for at, want := range map[int]int{math.MinInt: 6, 1099: 6, 1100: 4, 1150: 3, 1151: 2, 1199: 2, 1200: 1, 1201: 0, math.MaxInt: 0} {
		if n, e := retort.Cooked(cooks(), whole(), at); n != want || e != api.OK {
			t.Errorf("Cooked(%d) = %d, %d", at, n, e)
		}
	}
	if n, e := retort.Cooked(cooks(), nil, 0); n != 0 || e != api.OK {
		t.Errorf("Cooked of nothing = %d, %d", n, e)
	}
}

// 3.4, P4
func TestDeviations(t *testing.T) {
	for _, c := range []struct {
		r    []api.Reading
		want []api.Deviation
	}{
		// not one stretch over the two cooks
		{whole(), []api.Deviation{{From: 2, To: 3, Least: 1199}, {From: 4, To: 6, Least: 1099}, {From: 6, To: 7, Least: 1099}}},
		{nil, nil},
		{whole()[:2], nil},
		{read([2]int{0, 0}, [2]int{1, 5}, [2]int{1, 3}, [2]int{1, 4}), []api.Deviation{{From: 1, To: 4, Least: 3}}},
		{read([2]int{0, 0}, [2]int{1, -5}, [2]int{1, 1201}, [2]int{1, -5}), []api.Deviation{{From: 1, To: 2, Least: -5}, {From: 3, To: 4, Least: -5}}},
		{read([2]int{0, 0}, [2]int{1, 1200}, [2]int{2, 1100}, [2]int{3, 0}, [2]int{4, 0}), nil},
	} {
		if l, e := retort.Deviations(cooks(), c.r); !slices.Equal(l, c.want) || e != api.OK {
			t.Errorf("Deviations(%v) = %v, %d", c.r, l, e)
		}
	}
	r := []api.Reading{{Temp: 1}, {Temp: 100}, {Temp: 2}}
	r[1].Chart, r[1].Bath = -9, -9 // only the thermometer tells
	p := []api.Step{{Kind: api.KCook, Set: 100, Ticks: 3}}
	if l, _ := retort.Deviations(p, r); !slices.Equal(l, []api.Deviation{{From: 0, To: 1, Least: 1}, {From: 2, To: 3, Least: 2}}) {
		t.Errorf("Deviations = %v", l)
	}
}

// 3.3, 3.4, R2, R3
func TestRecordErrors(t *testing.T) {
	try := func(p []api.Step, r []api.Reading) {
		t.Helper()
		for _, step := range []int{-1, 0, 5} {
			if from, to, e := retort.Part(p, r, step); from != 0 || to != 0 || e != api.ErrInvalid {
				t.Errorf("Part(%v, %v, %d) = %d, %d, %d", p, r, step, from, to, e)
			}
		}
		if ok, e := retort.Vented(p, r); ok || e != api.ErrInvalid {
			t.Errorf("Vented(%v, %v) = %t, %d", p, r, ok, e)
		}
		if n, e := retort.Cooked(p, r, 0); n != 0 || e != api.ErrInvalid {
			t.Errorf("Cooked(%v, %v) = %d, %d", p, r, n, e)
		}
		if l, e := retort.Deviations(p, r); len(l) != 0 || e != api.ErrInvalid {
			t.Errorf("Deviations(%v, %v) = %v, %d", p, r, l, e)
		}
	}
	for _, r := range badRecords() {
		try(cooks(), r)
	}
	for _, p := range badPrograms() {
		try(p, nil)
		try(p, whole())
	}
}

// 3.5, P4
func TestHigh(t *testing.T) {
	r := []api.Reading{{Temp: 5, Chart: 5}, {Temp: 5, Chart: 4, Bath: -9}, {Temp: 5, Chart: 6}, {Temp: 5, Chart: 7}}
	for n, want := range []int{-1, -1, -1, 2, 2} {
		if i := retort.High(r[:n]); i != want {
			t.Errorf("High(%v) = %d", r[:n], i)
		}
	}
	if i := retort.High(r[3:]); i != 0 {
		t.Errorf("High of one = %d", i)
	}
	// any records: also where the difference is beyond an int
	if i := retort.High([]api.Reading{{Step: -1, Temp: math.MaxInt, Chart: math.MinInt}, {Step: 77, Temp: math.MinInt, Chart: math.MaxInt}}); i != 1 {
		t.Errorf("High = %d", i)
	}
	if i := retort.High(append(slices.Repeat(r[:2], 5000), r[2])); i != 10000 {
		t.Errorf("High of a long record = %d", i)
	}
}

// 3.5
func TestSame(t *testing.T) {
	if !retort.Same(nil, []api.Reading{}) || !retort.Same(whole(), whole()) || retort.Same(whole(), whole()[:9]) || retort.Same(nil, whole()) {
		t.Error("Same")
	}
	for i := range whole() {
		for _, set := range []func(x *api.Reading){
			func(x *api.Reading) { x.Step++ },
			func(x *api.Reading) { x.Temp++ },
			func(x *api.Reading) { x.Chart++ },
			func(x *api.Reading) { x.Bath++ },
		} {
			r := whole()
			set(&r[i])
			if retort.Same(r, whole()) || retort.Same(whole(), r) || !retort.Same(r, slices.Clone(r)) {
				t.Errorf("Same of %v", r)
			}
		}
	}
}
