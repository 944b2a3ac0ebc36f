package process

import (
	"iter"
	"slices"

	"cannery/api"
)

// Cook returns the baths of a cook.
func Cook(t, n, cold, cooling int) ([]int, api.Errno) {
	if !temperatures(t, cold) || !ticks(n, cooling) {
		return nil, api.ErrRange
	}
	return slices.Concat(slices.Repeat([]int{t}, n), slices.Repeat([]int{cold}, cooling)), api.OK
}

// Least returns the least cook with which a can is sterile, the lethality with it, and that with a tick less.
func Least(c api.Can, k api.Killer, initial, t, cold, cooling int) (n, f, before int, e api.Errno) {
	n, e = Mended(c, k, initial, t, cold, cooling, nil)
	if e != api.OK {
		return 0, 0, 0, e
	}
	with := func(n int) int {
		baths, _ := Cook(t, n, cold, cooling)
		_, f, _ := Lethality(c, k, initial, baths)
		return f
	}
	if n == 0 {
		return 0, with(0), -1, api.OK
	}
	return n, with(n), with(n - 1), api.OK
}

// Proved reports whether a can is sterile with n ticks, but not with one less.
func Proved(c api.Can, k api.Killer, initial, t, cold, cooling, n int) bool {
	sterile := func(n int) bool {
		baths, e := Cook(t, n, cold, cooling)
		if e != api.OK {
			return false
		}
		ok, _ := Sterile(c, k, initial, baths)
		return ok
	}
	return sterile(n) && (n == 0 || !sterile(n-1))
}

// Best returns the index of the cooking temperature whose least cook spoils least, and the ticks of this cook.
func Best(c api.Can, k, spoiler api.Killer, initial int, temps []int, cold, cooling int) (which, n int, e api.Errno) {
	if !valid(c, k, spoiler) {
		return 0, 0, api.ErrInvalid
	}
	if !temperatures(initial, cold) || !temperatures(temps...) || !ticks(cooling) {
		return 0, 0, api.ErrRange
	}
	if len(temps) > mostChoices {
		return 0, 0, api.ErrLimit
	}
	m := meterUp(c, spoiler)
	least := 0
	e = api.ErrNone
	for i, t := range temps {
		count, none := Mended(c, k, initial, t, cold, cooling, nil)
		if none != api.OK {
			continue
		}
		baths, _ := Cook(t, count, cold, cooling)
		spoiled := slices.Max(m.run(initial, baths).sums)
		if e == api.ErrNone || spoiled < least {
			which, n, least, e = i, count, spoiled, api.OK
		}
	}
	return which, n, e
}

// Mended returns the least number of ticks in a bath that, behind other baths and before the cooling, make a can sterile.
func Mended(c api.Can, k api.Killer, initial, t, cold, cooling int, baths []int) (int, api.Errno) {
	if !valid(c, k) {
		return 0, api.ErrInvalid
	}
	if !temperatures(t, cold) || !ticks(cooling) {
		return 0, api.ErrRange
	}
	if e := check(c, k, initial, baths); e != api.OK {
		return 0, e
	}
	m := meterDown(c, k, slices.Concat([]int{initial, t, cold}, baths))
	s := search{meter: m, bath: t, most: api.MaxRun - len(baths) - cooling, cold: cold, cooling: cooling}
	return s.least(m.run(initial, baths))
}

// search looks for the least cook in a bath, of up to most ticks, with some ticks of cooling behind it.
type search struct {
	meter
	bath, most    int
	cold, cooling int
}

// cook is a dish after some ticks in the bath of a search.
type cook struct {
	dish
	ticks int
}

// stride is about the root of MaxRun: so there are few strides, each with few ticks.
const stride = 45

// least returns the least number of ticks with which a dish gets sterile.
func (s search) least(d dish) (int, api.Errno) {
	last := cook{dish: d} // none with fewer ticks is sterile
	sterile := func(x cook) bool {
		if s.sterile(x.dish) {
			return true
		}
		last = x
		return false
	}
	if s.rising(d) {
		// Cooks with fewer ticks than one that is not sterile need not be looked at.
		first(s.cooks(last, stride), sterile)
	}
	x, ok := first(s.cooks(last, 1), sterile)
	if !ok {
		return 0, api.ErrNone
	}
	return x.ticks, api.OK
}

// rising reports whether more ticks are surely no less lethal: as long as a can conducts the same way, a tick in a bath that is at least as hot as the cooling makes the can in no tick colder than the cooling alone.
func (s search) rising(d dish) bool {
	return (s.can.Break == 0 || d.body.Broken) && s.bath >= s.cold
}

// cooks yields a cook, and those with more and more ticks, as many more each time.
func (s search) cooks(from cook, more int) iter.Seq[cook] {
	return func(yield func(cook) bool) {
		for x := from; x.ticks <= s.most; {
			if !yield(x) {
				return
			}
			for range more {
				x.dish = s.after(x.dish, s.bath)
			}
			x.ticks += more
		}
	}
}

// sterile reports whether a dish is sterile after the cooling.
func (s search) sterile(d dish) bool {
	for range s.cooling {
		if s.enough(d) {
			return true
		}
		d = s.after(d, s.cold)
	}
	return s.enough(d)
}

// first returns the first value for which a condition holds.
func first[T any](l iter.Seq[T], holds func(T) bool) (value T, ok bool) {
	for x := range l {
		if holds(x) {
			return x, true
		}
	}
	return value, false
}
