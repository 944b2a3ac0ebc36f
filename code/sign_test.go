package code_test

import (
	"math"
	"strings"
	"testing"

	"cannery/api"
	"cannery/code"
)

const signs = "0123456789ABCDEFGHJKLMNPQRSTUVW"

// numbers makes n of them from least to most.
func numbers(n, seed, least, most int) []int {
	l := make([]int, n)
	for i := range l {
		seed = (seed*1103515245 + 12345) % 2147483648
		l[i] = least + seed/8%(most-least+1)
	}
	return l
}

// anyText makes a text of nine signs.
func anyText(seed int) string {
	s := ""
	for _, n := range numbers(9, seed, 0, 30) {
		s += signs[n : n+1]
	}
	return s
}

// weight reckons it sign by sign.
func weight(s string) int {
	sum := 0
	for i := range len(s) {
		sum += (i + 1) * strings.Index(signs, s[i:i+1])
	}
	return sum % 31
}

// sealed puts the sign that fits behind eight signs.
func sealed(s string) string {
	for _, last := range signs {
		if s := s + string(last); weight(s) == 0 {
			return s
		}
	}
	panic("no sign fits")
}

// anySound makes a sound code.
func anySound(seed int) string { return sealed(anyText(seed)[:8]) }

// changed puts another sign at a place.
func changed(s string, place int, sign byte) string {
	return s[:place] + string(sign) + s[place+1:]
}

// noTexts have not just nine signs.
var noTexts = []string{
	"", "0", "00000000", "0000000000", "A1701U23", "A1701U23U0", "A1701U23U ", " A1701U23U", "A1701U23U\n",
	"a1701U23U", "A1701u23U", "A1701U23u", "I1701U23U", "O1701U23U", "X1701U23U", "A17Y1U23U", "A17Z1U23U", "A1701U2-U", "A1701U23\x00",
	"A17 1U23U", "A17/1U23U", "A17:1U23U", "A17@1U23U",
	// nine letters of more bytes; nine bytes with fewer letters
	"A1701U23Ä", "A1701U2Ä", "ÄÄÄÄ0", "000İİİ", "０００", "İİİİİİİİİ", "ŁŁŁŁŁŁŁŁŁ", "00000000\xff", "\xff0000000\xff", "\xc3\x28\xa0\xa1\xe2\x28\xa1\xf0\x90", "0000000\xc4\xb0", "\U00010330\U00010330A",
	"000000000000000000", "A1701U23UA1701U23U",
}

// 6.2
func TestValue(t *testing.T) {
	for n := range 256 {
		if value := code.Value(byte(n)); value != strings.IndexByte(signs, byte(n)) {
			t.Errorf("Value(%q) = %d", rune(n), value)
		}
	}
	for _, c := range []struct {
		sign  byte
		value int
	}{{'0', 0}, {'9', 9}, {'A', 10}, {'H', 17}, {'J', 18}, {'N', 22}, {'P', 23}, {'U', 28}, {'W', 30}, {'I', -1}, {'O', -1}, {'X', -1}, {'a', -1}, {0, -1}, {255, -1}} {
		if value := code.Value(c.sign); value != c.value {
			t.Errorf("Value(%q) = %d", c.sign, value)
		}
	}
}

// 6.2
func TestSign(t *testing.T) {
	for value := range 31 {
		if sign := code.Sign(value); sign != signs[value] || code.Value(sign) != value {
			t.Errorf("Sign(%d) = %q", value, sign)
		}
	}
	for _, value := range []int{math.MinInt, -256, -31, -1, 31, 32, 255, 256, 257, math.MaxInt} {
		if sign := code.Sign(value); sign != 0 {
			t.Errorf("Sign(%d) = %q", value, sign)
		}
	}
}

// 6.2
func TestWeight(t *testing.T) {
	for _, c := range []struct {
		s      string
		weight int
	}{
		{"000000000", 0},
		{"100000000", 1}, {"010000000", 2}, {"001000000", 3}, {"000100000", 4}, {"000010000", 5}, {"000001000", 6}, {"000000100", 7}, {"000000010", 8}, {"000000001", 9},
		{"W00000000", 30}, {"00000000W", 22}, {"000000008", 10}, {"111111111", 14}, {"WWWWWWWWW", 17},
		{"A1701U230", 27}, {"A1701U23U", 0}, {"A1701U23V", 9},
	} {
		if n, e := code.Weight(c.s); n != c.weight || e != api.OK {
			t.Errorf("Weight(%q) = %d, %d", c.s, n, e)
		}
		if sound := code.Sound(c.s); sound != (c.weight == 0) {
			t.Errorf("Sound(%q) = %t", c.s, sound)
		}
	}
	for seed := range 5000 {
		s := anyText(seed)
		if n, e := code.Weight(s); n != weight(s) || e != api.OK {
			t.Errorf("Weight(%q) = %d, %d", s, n, e)
		}
		if sound := code.Sound(s); sound != (weight(s) == 0) {
			t.Errorf("Sound(%q) = %t", s, sound)
		}
		if s := anySound(seed); !code.Sound(s) {
			t.Errorf("%q is not sound", s)
		}
	}
}

// 6.2: what has not just nine signs has no weight.
func TestNoTexts(t *testing.T) {
	for _, s := range noTexts {
		if n, e := code.Weight(s); n != 0 || e != api.ErrSyntax {
			t.Errorf("Weight(%q) = %d, %d", s, n, e)
		}
		if code.Sound(s) {
			t.Errorf("%q is sound", s)
		}
	}
}

// P6.4, P7
func TestOneSign(t *testing.T) {
	for seed := range 200 {
		s := anySound(seed)
		for place := range 9 {
			for _, sign := range []byte(signs) {
				if m := changed(s, place, sign); code.Sound(m) != (m == s) {
					t.Errorf("Sound(%q) = %t, and %q is sound", m, m != s, s)
				}
			}
			if place == 8 {
				break
			}
			m := changed(changed(s, place, s[place+1]), place+1, s[place])
			if code.Sound(m) != (m == s) {
				t.Errorf("Sound(%q) = %t, and %q is sound", m, m != s, s)
			}
		}
	}
}
