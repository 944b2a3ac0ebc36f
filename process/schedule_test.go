package process_test

import (
	"math"
	"slices"
	"strings"
	"testing"

	"cannery/api"
	"cannery/process"
	"cannery/retort"
)

// changed makes as many copies of a value as there are numbers, each with the number put where set puts it.
func changed[T any](x T, set func(x *T, n int), numbers ...int) []T {
	var l []T
	for _, n := range numbers {
		y := x
		set(&y, n)
		l = append(l, y)
	}
	return l
}

func peas() api.Schedule {
	return api.Schedule{Product: "peas", Initial: 40000, Temp: 121000, Ticks: 60, Fill: 300}
}

// schedules are valid, and at the ends of what is valid.
func schedules() []api.Schedule {
	return []api.Schedule{
		peas(),
		{Product: "a", Initial: api.MinTemp, Temp: 0, Ticks: 1, Fill: 1},
		{Product: "a_0123456789_xyz", Initial: api.MaxTemp, Temp: api.MaxTemp, Ticks: api.MaxRun, Fill: 1000000},
		{Product: "peas", Initial: -1, Temp: 1, Ticks: 2, Fill: 999999},
		peas(),
	}
}

// badSchedules differ from a valid schedule in one field each.
func badSchedules() []api.Schedule {
	s := peas()
	l := slices.Concat(
		[]api.Schedule{{}},
		changed(s, func(s *api.Schedule, n int) { s.Initial = n }, math.MinInt, api.MinTemp-1, api.MaxTemp+1, math.MaxInt),
		changed(s, func(s *api.Schedule, n int) { s.Temp = n }, math.MinInt, -1, api.MaxTemp+1, math.MaxInt),
		changed(s, func(s *api.Schedule, n int) { s.Ticks = n }, math.MinInt, -1, 0, api.MaxRun+1, math.MaxInt),
		changed(s, func(s *api.Schedule, n int) { s.Fill = n }, math.MinInt, -1, 0, 1000001, math.MaxInt),
	)
	for _, name := range []string{"", "Peas", "9peas", "_peas", "pe as", "peas\n", "abcdefghijklmnopq", "p\xf6s"} {
		s.Product = name
		l = append(l, s)
	}
	return l
}

// 4.1
func TestValidSchedules(t *testing.T) {
	for _, l := range [][]api.Schedule{nil, {}, {peas()}, schedules(), slices.Repeat([]api.Schedule{peas()}, 64)} {
		if !process.ValidSchedules(l) {
			t.Errorf("%v are not valid", l)
		}
	}
	if process.ValidSchedules(slices.Repeat([]api.Schedule{peas()}, 65)) {
		t.Error("65 schedules are valid")
	}
	for _, s := range badSchedules() {
		if process.ValidSchedules([]api.Schedule{s}) || process.ValidSchedules([]api.Schedule{peas(), s, peas()}) {
			t.Errorf("%v is valid", s)
		}
	}
}

func shelf() []api.Schedule {
	return []api.Schedule{
		{Product: "peas", Initial: 40000, Temp: 121000, Ticks: 60, Fill: 300},
		{Product: "peas", Initial: 60000, Temp: 121000, Ticks: 40, Fill: 300},
		{Product: "corn", Initial: 0, Temp: 118000, Ticks: 1, Fill: 1000000},
		{Product: "peas", Initial: 60000, Temp: 125000, Ticks: 40, Fill: 320},
		{Product: "peas", Initial: 70000, Temp: 121000, Ticks: 39, Fill: 200},
		{Product: "peas", Initial: api.MinTemp, Temp: 121000, Ticks: 90, Fill: 1000000},
	}
}

// 4.1: the least ticks of those that fit, of several the first.
func TestLookup(t *testing.T) {
	for _, c := range []struct {
		product       string
		initial, fill int
		index         int
		e             api.Errno
	}{
		{"peas", 50000, 250, 0, api.OK},
		{"peas", 40000, 300, 0, api.OK},
		{"peas", 39999, 300, 5, api.OK},
		{"peas", 40000, 301, 5, api.OK},
		{"peas", 59999, 0, 0, api.OK},
		{"peas", 60000, 300, 1, api.OK},
		{"peas", 60000, 301, 3, api.OK},
		{"peas", 70000, 200, 4, api.OK},
		{"peas", 70000, 201, 1, api.OK},
		{"peas", 70000, 321, 5, api.OK},
		{"peas", api.MinTemp, 1000000, 5, api.OK},
		{"peas", api.MaxTemp, 0, 4, api.OK},
		{"corn", 0, 1000000, 2, api.OK},
		{"corn", -1, 1, 0, api.ErrNone},
		{"corn", api.MinTemp, 0, 0, api.ErrNone},
		{"beans", 50000, 250, 0, api.ErrName},
		{"", 50000, 250, 0, api.ErrName},
		{"Peas", 50000, 250, 0, api.ErrName},
		{"pea", 50000, 250, 0, api.ErrName},
		{"peas_", 50000, 250, 0, api.ErrName},
		{"beans", api.MinTemp - 1, 250, 0, api.ErrRange},
		{"corn", api.MaxTemp + 1, 250, 0, api.ErrRange},
		{"peas", 50000, -1, 0, api.ErrRange},
		{"peas", 50000, 1000001, 0, api.ErrRange},
		{"peas", math.MinInt, math.MaxInt, 0, api.ErrRange},
	} {
		if i, e := process.Lookup(shelf(), c.product, c.initial, c.fill); i != c.index || e != c.e {
			t.Errorf("Lookup(%q, %d, %d) = %d, %d", c.product, c.initial, c.fill, i, e)
		}
	}
	if i, e := process.Lookup(nil, "peas", 0, 0); i != 0 || e != api.ErrName {
		t.Errorf("Lookup of nothing = %d, %d", i, e)
	}
	// one that fits stays found when others of the product do not
	corn := []api.Schedule{{Product: "corn", Initial: 0, Temp: 1, Ticks: 9, Fill: 9}, {Product: "corn", Initial: 50, Temp: 1, Ticks: 1, Fill: 9}}
	if i, e := process.Lookup(corn, "corn", 49, 9); i != 0 || e != api.OK {
		t.Errorf("Lookup = %d, %d", i, e)
	}
	slices.Reverse(corn)
	if i, e := process.Lookup(corn, "corn", 49, 9); i != 1 || e != api.OK {
		t.Errorf("Lookup = %d, %d", i, e)
	}
	for _, s := range badSchedules() {
		if i, e := process.Lookup([]api.Schedule{peas(), s}, "beans", math.MaxInt, -1); i != 0 || e != api.ErrInvalid {
			t.Errorf("Lookup among %v = %d, %d", s, i, e)
		}
	}
	if _, e := process.Lookup(slices.Repeat(shelf(), 11), "corn", 0, 1); e != api.ErrInvalid {
		t.Errorf("Lookup among 66: %d", e)
	}
}

// 4.1
func TestProgram(t *testing.T) {
	p, e := process.Program(peas(), 100000, 5, 30000, 40)
	want := []api.Step{{Kind: api.KVent, Set: 100000, Ticks: 5}, {Kind: api.KUp, Set: 121000}, {Kind: api.KCook, Set: 121000, Ticks: 60}, {Kind: api.KCool, Set: 30000, Ticks: 40}}
	if e != api.OK || !slices.Equal(p, want) {
		t.Errorf("Program = %v, %d", p, e)
	}
	for _, s := range schedules() {
		for _, c := range [][4]int{{0, 0, 0, 1}, {api.MaxTemp, 1, api.MaxTemp, 1999}, {1, 1999, 1, 1}, {0, 0, 0, 2000}} {
			p, e := process.Program(s, c[0], c[1], c[2], c[3])
			if e != api.OK || !retort.ValidProgram(p) || len(p) != 4 || p[2].Ticks != s.Ticks || p[1].Set != s.Temp || p[2].Set != s.Temp {
				t.Errorf("Program(%v, %v) = %v, %d", s, c, p, e)
			}
		}
	}
}

// 4.1
func TestProgramErrors(t *testing.T) {
	for _, c := range [][4]int{
		{-1, 5, 30000, 40}, {api.MinTemp, 5, 30000, 40}, {api.MinTemp - 1, 5, 30000, 40}, {api.MaxTemp + 1, 5, 30000, 40},
		{100000, -1, 30000, 40}, {100000, 2001, 30000, 40}, {100000, math.MinInt, 30000, 40}, {100000, math.MaxInt, 30000, 1},
		{100000, 5, -1, 40}, {100000, 5, api.MaxTemp + 1, 40}, {100000, 5, math.MinInt, 40},
		{100000, 5, 30000, 0}, {100000, 5, 30000, -1}, {100000, 5, 30000, 2001}, {100000, 5, 30000, math.MaxInt},
		{100000, 1000, 30000, 1001}, {100000, 2000, 30000, 1}, {100000, math.MaxInt, 30000, math.MaxInt},
	} {
		if p, e := process.Program(peas(), c[0], c[1], c[2], c[3]); e != api.ErrRange || len(p) != 0 {
			t.Errorf("Program(%v) = %v, %d", c, p, e)
		}
	}
	for _, s := range badSchedules() {
		if p, e := process.Program(s, -1, -1, -1, 0); e != api.ErrInvalid || len(p) != 0 {
			t.Errorf("Program of %v = %v, %d", s, p, e)
		}
	}
}

// R6: a name is compared bytewise, also with what looks like it.
func TestLookupBytewise(t *testing.T) {
	for _, name := range []string{"peas\x00", "p\u0435as", strings.ToUpper("peas"), " peas"} {
		if _, e := process.Lookup(shelf(), name, 50000, 250); e != api.ErrName {
			t.Errorf("Lookup(%q): %d", name, e)
		}
	}
}
