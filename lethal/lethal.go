// Package lethal reckons what heat does: rates that are powers of ten with broken exponents, rounded exactly, and their sums. See doc/01-lethal.md.
package lethal

import "cannery/api"

const (
	coldest    = -1000 // quarters of a degree
	hottest    = 2000
	lowestRef  = -200
	highestRef = 800
	mostZ      = 60
	mostD      = 1000000
	mostGoal   = 20
	mostSum    = 1000000000000000000 // what sums are cut to
	millionths = 1000000             // of a tick at Ref
)

// Name reports whether s is a name: a small letter, then small letters, digits and underscores.
func Name(s string) bool {
	if len(s) > api.MaxName || s == "" || !small(s[0]) {
		return false
	}
	for i := range len(s) {
		if !small(s[i]) && !digit(s[i]) && s[i] != '_' {
			return false
		}
	}
	return true
}

func small(c byte) bool { return 'a' <= c && c <= 'z' }

func digit(c byte) bool { return '0' <= c && c <= '9' }

// Valid reports whether a killer is valid.
func Valid(k api.Killer) bool {
	return Name(k.Name) &&
		within(k.Ref, lowestRef, highestRef) &&
		within(k.Z, 1, mostZ) &&
		within(k.D, 1, mostD) &&
		within(k.Goal, 1, mostGoal)
}

func within(n, least, most int) bool { return least <= n && n <= most }

// Needs returns the lethality that a killer needs.
func Needs(k api.Killer) int {
	if !Valid(k) {
		return 0
	}
	return k.Goal * reduction(k)
}

// reduction is the lethality of a decimal reduction.
func reduction(k api.Killer) int { return k.D * millionths }

// Reached returns how many per mille of its need a killer has with the lethality f.
func Reached(k api.Killer, f int) (int, api.Errno) {
	if e := checkLethality(k, f); e != api.OK {
		return 0, e
	}
	return perMille(f, Needs(k)), api.OK
}

// Reductions returns how many thousandths of decimal reductions the lethality f is.
func Reductions(k api.Killer, f int) (int, api.Errno) {
	if e := checkLethality(k, f); e != api.OK {
		return 0, e
	}
	return perMille(f, reduction(k)), api.OK
}

func checkLethality(k api.Killer, f int) api.Errno {
	if !Valid(k) {
		return api.ErrInvalid
	}
	if !within(f, 0, mostSum) {
		return api.ErrRange
	}
	return api.OK
}

// perMille takes the whole part and the rest apart, because f * 1,000 may be beyond an int.
func perMille(f, whole int) int {
	return f/whole*1000 + f%whole*1000/whole
}
