package code

import (
	"strings"

	"cannery/api"
)

// Value returns the value of a sign, -1 if it is none.
func Value(sign byte) int { return strings.IndexByte(signs, sign) }

// Sign returns the sign with a value, 0 if there is none.
func Sign(value int) byte {
	if !within(value, 0, base-1) {
		return 0
	}
	return signs[value]
}

// Weight returns the weight of a text of nine signs.
func Weight(s string) (int, api.Errno) {
	v, ok := valuesOf(s)
	if !ok {
		return 0, api.ErrSyntax
	}
	return v.weight(), api.OK
}

// Sound reports whether a text is a sound code.
func Sound(s string) bool {
	v, ok := valuesOf(s)
	return ok && v.sound()
}

// spelt reports whether a text has just n signs.
func spelt(s string, n int) bool {
	if len(s) != n {
		return false
	}
	for _, letter := range s {
		if strings.IndexRune(signs, letter) < 0 {
			return false
		}
	}
	return true
}

// values are those of the signs of a text of nine.
type values [places]int

// valuesOf is not ok if a text has not just nine signs.
func valuesOf(s string) (v values, ok bool) {
	if !spelt(s, places) {
		return values{}, false
	}
	for place, sign := range s {
		v[place] = Value(byte(sign))
	}
	return v, true
}

// text returns the text of nine signs.
func (v values) text() string { return textOf(v[:]...) }

// textOf returns the signs of some values as a text.
func textOf(v ...int) string {
	text := make([]byte, len(v))
	for i, value := range v {
		text[i] = Sign(value)
	}
	return string(text)
}

// weights are what the values at the places count.
var weights = [places]int{1, 2, 3, 4, 5, 6, 7, 8, 9}

func (v values) weight() int {
	sum := 0
	for place, value := range v {
		sum += weights[place] * value
	}
	return sum % base
}

func (v values) sound() bool { return v.weight() == 0 }

// mended returns the values with the one at a place that makes the code sound. There is just one, as no weight has a common divisor with the prime.
func (v values) mended(place int) values {
	for value := range base {
		v[place] = value
		if v.sound() {
			break
		}
	}
	return v
}
