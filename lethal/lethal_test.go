package lethal_test

import (
	"math"
	"slices"
	"strings"
	"testing"

	"cannery/api"
	"cannery/lethal"
)

const mostSum = 1000000000000000000

func spores() api.Killer { return api.Killer{Name: "spores", Ref: 484, Z: 40, D: 13, Goal: 12} }

// killers are valid, and at the ends of what is valid.
func killers() []api.Killer {
	return []api.Killer{
		spores(),
		{Name: "a", Ref: -200, Z: 1, D: 1, Goal: 1},
		{Name: "a_0123456789_xyz", Ref: 800, Z: 60, D: 1000000, Goal: 20},
		{Name: "b", Ref: 0, Z: 7, D: 999983, Goal: 3},
		{Name: "c", Ref: -200, Z: 60, D: 7, Goal: 19},
		{Name: "d", Ref: 250, Z: 36, D: 100, Goal: 5},
	}
}

// invalids differ from a valid killer in one field each.
func invalids() []api.Killer {
	l := []api.Killer{{}}
	add := func(change func(k *api.Killer)) {
		k := spores()
		change(&k)
		l = append(l, k)
	}
	for _, name := range []string{"", "9a", "_a", "Spores", "spoRes", "spores ", "a-b", "abcdefghijklmnopq", "sp\xf6res", "sp\u00f6res", "a\n", "a\x00"} {
		add(func(k *api.Killer) { k.Name = name })
	}
	for _, n := range []int{-201, 801, math.MinInt, math.MaxInt} {
		add(func(k *api.Killer) { k.Ref = n })
	}
	for _, n := range []int{0, -1, 61, math.MinInt, math.MaxInt} {
		add(func(k *api.Killer) { k.Z = n })
	}
	for _, n := range []int{0, -1, 1000001, math.MinInt, math.MaxInt} {
		add(func(k *api.Killer) { k.D = n })
	}
	for _, n := range []int{0, -1, 21, math.MinInt, math.MaxInt} {
		add(func(k *api.Killer) { k.Goal = n })
	}
	return l
}

// 1.1
func TestName(t *testing.T) {
	for _, s := range []string{"a", "z", "a9_", "a_", "spores", "abcdefghijklmnop", "z0123456789_____"} {
		if !lethal.Name(s) {
			t.Errorf("%q is no name", s)
		}
	}
	for _, s := range []string{"", "0", "9a", "_a", "A", "aB", "a b", " a", "a ", "a-", "a.", "a\n", "\x00", "a\x00", "a\x7f", "\u00e4", "a\u00e4", "a\xff", "abcdefghijklmnopq", strings.Repeat("a", 100000)} {
		if lethal.Name(s) {
			t.Errorf("%q is a name", s)
		}
	}
	for c := range 256 {
		small, other := 'a' <= c && c <= 'z', '0' <= c && c <= '9' || c == '_'
		if lethal.Name(string([]byte{byte(c)})) != small {
			t.Errorf("the byte %d alone", c)
		}
		if lethal.Name(string([]byte{'a', byte(c)})) != (small || other) {
			t.Errorf("the byte %d as the second", c)
		}
	}
}

// 1.1
func TestValid(t *testing.T) {
	for _, k := range killers() {
		if !lethal.Valid(k) {
			t.Errorf("%v is not valid", k)
		}
	}
	for _, k := range invalids() {
		if lethal.Valid(k) {
			t.Errorf("%v is valid", k)
		}
	}
}

// 1.4
func TestNeeds(t *testing.T) {
	for _, c := range []struct{ d, goal, needs int }{{13, 12, 156000000}, {1, 1, 1000000}, {1000000, 20, 20000000000000}} {
		k := spores()
		k.D, k.Goal = c.d, c.goal
		if n := lethal.Needs(k); n != c.needs {
			t.Errorf("Needs(%v) = %d", k, n)
		}
	}
	for _, k := range invalids() {
		if n := lethal.Needs(k); n != 0 {
			t.Errorf("Needs(%v) = %d", k, n)
		}
	}
}

// 1.4, R6: f * 1,000 is beyond an int at the end of the range.
func TestReached(t *testing.T) {
	big := api.Killer{Name: "b", Ref: 0, Z: 1, D: 999983, Goal: 17}
	small := api.Killer{Name: "s", Ref: 0, Z: 1, D: 1, Goal: 1}
	for _, c := range []struct {
		k                      api.Killer
		f, reached, reductions int
	}{
		{spores(), 0, 0, 0},
		{spores(), 155999, 0, 11},
		{spores(), 156000, 1, 12},
		{spores(), 78000000, 500, 6000},
		{spores(), 155999999, 999, 11999},
		{spores(), 156000000, 1000, 12000},
		{spores(), 156155999, 1000, 12011},
		{spores(), mostSum, 6410256410256, 76923076923076},
		{small, mostSum, 1000000000000000, 1000000000000000},
		{small, mostSum - 1, 999999999999999, 999999999999999},
		{big, mostSum, 58824529, 1000017000},
	} {
		if n, e := lethal.Reached(c.k, c.f); n != c.reached || e != api.OK {
			t.Errorf("Reached(%v, %d) = %d, %d", c.k, c.f, n, e)
		}
		if n, e := lethal.Reductions(c.k, c.f); n != c.reductions || e != api.OK {
			t.Errorf("Reductions(%v, %d) = %d, %d", c.k, c.f, n, e)
		}
	}
	for _, f := range []int{-1, mostSum + 1, math.MinInt, math.MaxInt} {
		if n, e := lethal.Reached(spores(), f); n != 0 || e != api.ErrRange {
			t.Errorf("Reached(%d) = %d, %d", f, n, e)
		}
		if n, e := lethal.Reductions(spores(), f); n != 0 || e != api.ErrRange {
			t.Errorf("Reductions(%d) = %d, %d", f, n, e)
		}
	}
}

// R2, R3: a killer that is not valid comes before all else, and leaves no result.
func TestInvalidFirst(t *testing.T) {
	many := slices.Repeat([]int{api.MaxTemp + 1}, 10001)
	for _, k := range invalids() {
		for _, bad := range []bool{false, true} {
			at, f, temps := 484, 1, []int{121000}
			if bad {
				at, f, temps = 2001, -1, many
			}
			for name, call := range map[string]func() (int, api.Errno){
				"Rate":       func() (int, api.Errno) { return lethal.Rate(k, at) },
				"RateUp":     func() (int, api.Errno) { return lethal.RateUp(k, at) },
				"Sum":        func() (int, api.Errno) { return lethal.Sum(k, temps) },
				"SumUp":      func() (int, api.Errno) { return lethal.SumUp(k, temps) },
				"Reached":    func() (int, api.Errno) { return lethal.Reached(k, f) },
				"Reductions": func() (int, api.Errno) { return lethal.Reductions(k, f) },
				"Ticks":      func() (int, api.Errno) { return lethal.Ticks(k, at, f) },
				"Least":      func() (int, api.Errno) { return lethal.Least(k, f) },
				"When":       func() (int, api.Errno) { return lethal.When(k, temps, f) },
				"Table": func() (int, api.Errno) {
					l, e := lethal.Table(k, at, at)
					return len(l), e
				},
				"Running": func() (int, api.Errno) {
					l, e := lethal.Running(k, temps)
					return len(l), e
				},
			} {
				if n, e := call(); n != 0 || e != api.ErrInvalid {
					t.Errorf("%s of %v = %d, %d", name, k, n, e)
				}
			}
		}
	}
}

// P1.1, R1, R7: every call ends, none panics, and a second call answers the same, whatever the arguments.
func TestExtremes(t *testing.T) {
	numbers := []int{math.MinInt, math.MinInt + 1, -mostSum, -1001, -1, 0, 1, 2000, 2001, 10000000000000000, mostSum, math.MaxInt - 1, math.MaxInt}
	for _, k := range append(killers(), invalids()...) {
		for _, a := range numbers {
			for _, b := range numbers {
				twice(t, func() []int { return answers(k, a, b) })
			}
		}
	}
	for _, s := range []string{"", "\n", " ", strings.Repeat(" ", api.MaxText), strings.Repeat("\n", api.MaxText), "\xff\xfe", strings.Repeat("a", api.MaxText+1)} {
		lethal.Name(s)
		lethal.Parse(s)
	}
	lethal.Format(nil)
}

func twice(t *testing.T, call func() []int) {
	if first, second := call(), call(); !slices.Equal(first, second) {
		t.Errorf("two answers: %v, %v", first, second)
	}
}

// answers calls each function of a killer and numbers, and lists the results.
func answers(k api.Killer, a, b int) []int {
	l := []int{lethal.Quarter(a), lethal.Needs(k)}
	add := func(n int, e api.Errno) { l = append(l, n, int(e)) }
	add(lethal.Root(a, b))
	add(lethal.Rate(k, a))
	add(lethal.RateUp(k, a))
	add(lethal.Sum(k, []int{a, b}))
	add(lethal.SumUp(k, []int{a, b}))
	add(lethal.Reached(k, a))
	add(lethal.Reductions(k, a))
	add(lethal.Ticks(k, a, b))
	add(lethal.Least(k, a))
	add(lethal.When(k, []int{a, a}, b))
	for _, call := range []func() ([]int, api.Errno){
		func() ([]int, api.Errno) { return lethal.Table(k, a, b) },
		func() ([]int, api.Errno) { return lethal.Running(k, []int{a, b}) },
	} {
		m, e := call()
		l = append(append(l, m...), int(e))
	}
	return l
}
