package code

import (
	"iter"
	"slices"
	"strings"

	"cannery/api"
)

// Distance returns at how many places two texts of nine signs differ.
func Distance(a, b string) (int, api.Errno) {
	v, ok := valuesOf(a)
	w, also := valuesOf(b)
	if !ok || !also {
		return 0, api.ErrSyntax
	}
	return v.distance(w), api.OK
}

func (v values) distance(w values) int {
	n := 0
	for place, value := range v {
		if w[place] != value {
			n++
		}
	}
	return n
}

// Beside returns the sound codes that differ from a text at one place.
func Beside(s string) ([]string, api.Errno) {
	v, ok := valuesOf(s)
	if !ok {
		return nil, api.ErrSyntax
	}
	var l []string
	for place := range places {
		if w := v.mended(place); w != v {
			l = append(l, w.text())
		}
	}
	slices.Sort(l)
	return l, api.OK
}

// Count returns how many sound codes differ from a sound one at d places.
func Count(d int) (int, api.Errno) {
	if !within(d, 0, places) {
		return 0, api.ErrRange
	}
	choices, changes, sign := 1, 1, 1
	for i := range d {
		choices = choices * (places - i) / (i + 1)
		changes *= base - 1
		sign = -sign
	}
	return choices * ((changes + sign*(base-1)) / base), api.OK
}

// distances returns the distance of a text from each code of a list.
func distances(s string, made []string, most int) ([]int, api.Errno) {
	v, ok := valuesOf(s)
	if !ok || slices.ContainsFunc(made, func(code string) bool { return !spelt(code, places) }) {
		return nil, api.ErrSyntax
	}
	if !within(most, 0, places) {
		return nil, api.ErrRange
	}
	if len(made) > mostMade {
		return nil, api.ErrLimit
	}
	l := make([]int, len(made))
	for i, code := range made {
		w, _ := valuesOf(code)
		l[i] = v.distance(w)
	}
	return l, api.OK
}

// upTo returns the indexes of the distances that are at most a number.
func upTo(most int, distances []int) []int {
	var which []int
	for i, d := range distances {
		if d <= most {
			which = append(which, i)
		}
	}
	return which
}

// Nearest returns which codes of a list are nearest to a text, and how near.
func Nearest(s string, made []string) (which []int, d int, e api.Errno) {
	l, e := distances(s, made, places)
	if e != api.OK {
		return nil, 0, e
	}
	if len(l) == 0 {
		return nil, 0, api.ErrNone
	}
	d = slices.Min(l)
	return upTo(d, l), d, api.OK
}

// Doubtful returns which codes of a list differ from a text at no more places than some.
func Doubtful(s string, made []string, most int) ([]int, api.Errno) {
	l, e := distances(s, made, most)
	if e != api.OK {
		return nil, e
	}
	return upTo(most, l), api.OK
}

// Only returns which code of a list differs from a text at no more places than some, if it is the only one.
func Only(s string, made []string, most int) (int, bool, api.Errno) {
	which, e := Doubtful(s, made, most)
	if e != api.OK {
		return 0, false, e
	}
	if len(which) != 1 {
		return -1, false, api.OK
	}
	return which[0], true, api.OK
}

// Alike returns the sound codes that a text may be if signs were taken for those that look like them.
func Alike(s string) ([]string, api.Errno) {
	v, ok := valuesOf(s)
	if !ok {
		return nil, api.ErrSyntax
	}
	var l []string
	for w := range v.exchanges() {
		if w.sound() {
			l = append(l, w.text())
		}
	}
	slices.Sort(l)
	return l, api.OK
}

// exchanges yields all that comes of values when some of them, or none, are exchanged with those of signs that look like theirs.
func (v values) exchanges() iter.Seq[values] {
	return func(yield func(values) bool) { v.exchangeFrom(0, yield) }
}

// exchangeFrom exchanges at a place and those behind it. It reports whether more is wanted.
func (v values) exchangeFrom(place int, yield func(values) bool) bool {
	if place == places {
		return yield(v)
	}
	if !v.exchangeFrom(place+1, yield) {
		return false
	}
	value, ok := partner(v[place])
	if !ok {
		return true
	}
	v[place] = value
	return v.exchangeFrom(place+1, yield)
}

// partner returns the value of the sign that looks like that of a value; not ok if there is none.
func partner(value int) (int, bool) {
	const pairs = "8B0D5S2Q6G" // each two neighbours look alike
	at := strings.IndexByte(pairs, Sign(value))
	if at < 0 {
		return 0, false
	}
	return Value(pairs[at^1]), true
}
