package code_test

import (
	"math"
	"slices"
	"testing"

	"cannery/api"
	"cannery/code"
)

// distance counts place by place.
func distance(a, b string) int {
	n := 0
	for i := range len(a) {
		if a[i] != b[i] {
			n++
		}
	}
	return n
}

// 6.3
func TestDistance(t *testing.T) {
	for _, c := range []struct {
		a, b string
		want int
	}{
		{"000000000", "000000000", 0}, {"000000000", "000000001", 1}, {"100000000", "000000000", 1}, {"100000000", "000000001", 2},
		{"012345678", "123456780", 9}, {"A1701U23U", "A1701U23W", 1}, {"ABCDEFGHJ", "JHGFEDCBA", 8}, {"WWWWWWWWW", "VVVVWVVVV", 8},
	} {
		if d, e := code.Distance(c.a, c.b); d != c.want || e != api.OK {
			t.Errorf("Distance(%q, %q) = %d, %d", c.a, c.b, d, e)
		}
	}
	for seed := range 1000 {
		a, b := anyText(seed), anyText(seed+1)
		b = a[:seed%10] + b[seed%10:]
		if d, e := code.Distance(a, b); d != distance(a, b) || e != api.OK {
			t.Errorf("Distance(%q, %q) = %d, %d", a, b, d, e)
		}
	}
	for _, s := range noTexts {
		for _, pair := range [][2]string{{s, "000000000"}, {"000000000", s}, {s, s}} {
			if d, e := code.Distance(pair[0], pair[1]); d != 0 || e != api.ErrSyntax {
				t.Errorf("Distance(%q, %q) = %d, %d", pair[0], pair[1], d, e)
			}
		}
	}
}

// beside tries each other sign at each place.
func beside(s string) []string {
	var l []string
	for place := range 9 {
		for _, sign := range []byte(signs) {
			if m := changed(s, place, sign); m != s && weight(m) == 0 {
				l = append(l, m)
			}
		}
	}
	slices.Sort(l)
	return l
}

// 6.3, P6.4: nine of an unsound text, none of a sound one.
func TestBeside(t *testing.T) {
	for seed := range 2000 {
		s := anyText(seed)
		want := 9
		if weight(s) == 0 {
			want = 0
		}
		if l, e := code.Beside(s); !slices.Equal(l, beside(s)) || len(l) != want || e != api.OK {
			t.Errorf("Beside(%q) = %v, %d", s, l, e)
		}
		if l, e := code.Beside(anySound(seed)); len(l) != 0 || e != api.OK {
			t.Errorf("Beside(%q) = %v, %d", anySound(seed), l, e)
		}
	}
	// 1 in front of zeros weighs 1: it goes, or another sign makes up for it
	want := []string{"000000000", "10000000Q", "1000000T0", "100000N00", "100005000", "100060000", "100P00000", "10A000000", "1F0000000"}
	if l, e := code.Beside("100000000"); !slices.Equal(l, want) || e != api.OK {
		t.Errorf("Beside = %v, %d", l, e)
	}
	for _, s := range noTexts {
		if l, e := code.Beside(s); len(l) != 0 || e != api.ErrSyntax {
			t.Errorf("Beside(%q) = %v, %d", s, l, e)
		}
	}
}

// counted counts the sound texts by the number of their signs that are not 0: sign by sign, by what they weigh so far.
func counted() [10]int {
	var texts [10][31]int
	texts[0][0] = 1
	for place := range 9 {
		var more [10][31]int
		for n := range place + 1 {
			for sum := range 31 {
				more[n][sum] += texts[n][sum]
				for value := 1; value <= 30; value++ {
					more[n+1][(sum+(place+1)*value)%31] += texts[n][sum]
				}
			}
		}
		texts = more
	}
	var sound [10]int
	for n := range sound {
		sound[n] = texts[n][0]
	}
	return sound
}

// 6.3, P6.5
func TestCount(t *testing.T) {
	sum, other := 0, counted()
	for d, want := range []int{1, 0, 1080, 73080, 3292380, 98767620, 1975354920, 25397419320, 190480645170, 634935483870} {
		n, e := code.Count(d)
		if n != want || n != other[d] || e != api.OK {
			t.Errorf("Count(%d) = %d, %d", d, n, e)
		}
		sum += n
	}
	if sum != 31*31*31*31*31*31*31*31 {
		t.Errorf("the counts add up to %d", sum)
	}
	for _, d := range []int{math.MinInt, -2, -1, 10, 11, 100, math.MaxInt} {
		if n, e := code.Count(d); n != 0 || e != api.ErrRange {
			t.Errorf("Count(%d) = %d, %d", d, n, e)
		}
	}
}

// P6.5, P7: those at the distance 2 of some codes, one by one.
func TestCountOfOne(t *testing.T) {
	for seed := range 20 {
		s, found := anySound(seed), 0
		for a := range 9 {
			for b := a + 1; b < 9; b++ {
				for _, x := range []byte(signs) {
					for _, y := range []byte(signs) {
						if x != s[a] && y != s[b] && code.Sound(changed(changed(s, a, x), b, y)) {
							found++
						}
					}
				}
			}
		}
		if n, e := code.Count(2); found != n || e != api.OK {
			t.Errorf("of %q there are %d at the distance 2", s, found)
		}
	}
}

// list makes texts of nine signs near to one another: only the first two places differ.
func list(n, seed int) []string {
	var l []string
	for _, x := range numbers(n, seed, 0, 24) {
		l = append(l, signs[x/5:x/5+1]+signs[x%5:x%5+1]+"0000000")
	}
	return l
}

// within returns the indexes of the texts of a list at a distance of at most a number.
func within(s string, made []string, most int) []int {
	var l []int
	for i, m := range made {
		if distance(s, m) <= most {
			l = append(l, i)
		}
	}
	return l
}

// 6.4
func TestNearest(t *testing.T) {
	for _, c := range []struct {
		s     string
		made  []string
		which []int
		d     int
	}{
		{"A1701U23U", []string{"A1701U23U"}, []int{0}, 0},
		{"A1701U23U", []string{"A1701U230"}, []int{0}, 1},
		{"A1701U23U", []string{"BBBBBBBBB"}, []int{0}, 9},
		{"A1701U23U", []string{"BBBBBBBBB", "WWWWWWWWW", "BBBBBBBBU"}, []int{2}, 8},
		{"A1701U23U", []string{"BBBBBBBBB", "WWWWWWWWW"}, []int{0, 1}, 9},
		// equal ones count each
		{"A1701U23U", []string{"A1701U23U", "A1701U230", "A1701U23U"}, []int{0, 2}, 0},
		{"A1701U231", []string{"0A1701U23", "A1701U23U", "A1701U230", "A1701U23U"}, []int{1, 2, 3}, 1},
	} {
		if which, d, e := code.Nearest(c.s, c.made); !slices.Equal(which, c.which) || d != c.d || e != api.OK {
			t.Errorf("Nearest(%q, %q) = %v, %d, %d", c.s, c.made, which, d, e)
		}
	}
	for _, made := range [][]string{nil, {}} {
		if which, d, e := code.Nearest("A1701U23U", made); len(which) != 0 || d != 0 || e != api.ErrNone {
			t.Errorf("Nearest of none = %v, %d, %d", which, d, e)
		}
	}
}

// 6.4
func TestOnly(t *testing.T) {
	made := []string{"A1701U23U", "A1701U230", "BBBBBBBBB", "B1701U23U", "A1701U230"}
	for _, c := range []struct {
		s     string
		most  int
		which []int
	}{
		{"A1701U23U", 0, []int{0}}, {"A1701U23U", 1, []int{0, 1, 3, 4}}, {"A1701U23U", 2, []int{0, 1, 3, 4}}, {"A1701U23U", 8, []int{0, 1, 3, 4}}, {"A1701U23U", 9, []int{0, 1, 2, 3, 4}},
		{"A1701U230", 0, []int{1, 4}}, {"B1701U230", 0, nil}, {"B1701U230", 1, []int{1, 3, 4}},
		{"BBBBBBBBA", 0, nil}, {"BBBBBBBBA", 1, []int{2}}, {"BBBBBBBBA", 7, []int{2}}, {"BBBBBBBBA", 8, []int{2, 3}}, {"BBBBBBBBA", 9, []int{0, 1, 2, 3, 4}},
	} {
		if l, e := code.Doubtful(c.s, made, c.most); !slices.Equal(l, c.which) || e != api.OK {
			t.Errorf("Doubtful(%q, %d) = %v, %d", c.s, c.most, l, e)
		}
		i, ok := -1, len(c.which) == 1
		if ok {
			i = c.which[0]
		}
		if n, is, e := code.Only(c.s, made, c.most); n != i || is != ok || e != api.OK {
			t.Errorf("Only(%q, %d) = %d, %t, %d", c.s, c.most, n, is, e)
		}
	}
	if l, e := code.Doubtful("A1701U23U", nil, 9); len(l) != 0 || e != api.OK {
		t.Errorf("Doubtful of none = %v, %d", l, e)
	}
	if n, ok, e := code.Only("A1701U23U", nil, 9); n != -1 || ok || e != api.OK {
		t.Errorf("Only of none = %d, %t, %d", n, ok, e)
	}
}

// P6.6, and 6.4 for many lists.
func TestOnlyIsNearest(t *testing.T) {
	only := 0
	for seed := range 1000 {
		s, made := list(1, seed)[0], list(1+seed%20, seed+7)
		which, d, e := code.Nearest(s, made)
		if e != api.OK || !slices.Equal(which, within(s, made, d)) || len(which) == 0 || len(within(s, made, d-1)) > 0 {
			t.Errorf("Nearest(%q, %q) = %v, %d, %d", s, made, which, d, e)
		}
		fewer := []int{}
		for most := range 10 {
			l, e := code.Doubtful(s, made, most)
			if e != api.OK || !slices.Equal(l, within(s, made, most)) {
				t.Errorf("Doubtful(%q, %q, %d) = %v, %d", s, made, most, l, e)
			}
			for _, i := range fewer {
				if !slices.Contains(l, i) {
					t.Errorf("Doubtful(%q, %q, %d) = %v has not %d", s, made, most, l, i)
				}
			}
			fewer = l
			i, ok, e := code.Only(s, made, most)
			if e != api.OK || ok != (len(l) == 1) || !ok && i != -1 {
				t.Errorf("Only(%q, %q, %d) = %d, %t, %d", s, made, most, i, ok, e)
			}
			if ok && (!slices.Equal(which, []int{i}) || !slices.Equal(l, []int{i})) {
				t.Errorf("Only(%q, %q, %d) = %d, and Nearest is %v", s, made, most, i, which)
			}
			if ok {
				only++
			}
		}
	}
	if only < 500 {
		t.Errorf("there is an only one %d times", only)
	}
}

// 6.4: the errors, and their order.
func TestErrorsOfLists(t *testing.T) {
	full, long := list(2000, 1), list(2001, 1)
	type question struct {
		s    string
		made []string
		most int
	}
	check := func(q question, nearest, others api.Errno) {
		which, d, e := code.Nearest(q.s, q.made)
		if e != nearest || e != api.OK && (len(which) != 0 || d != 0) {
			t.Errorf("Nearest(%q, %d codes) = %v, %d, %d", q.s, len(q.made), which, d, e)
		}
		l, e := code.Doubtful(q.s, q.made, q.most)
		if e != others || e != api.OK && len(l) != 0 {
			t.Errorf("Doubtful(%q, %d codes, %d) = %v, %d", q.s, len(q.made), q.most, l, e)
		}
		i, ok, e := code.Only(q.s, q.made, q.most)
		if e != others || e != api.OK && (i != 0 || ok) {
			t.Errorf("Only(%q, %d codes, %d) = %d, %t, %d", q.s, len(q.made), q.most, i, ok, e)
		}
	}
	for _, s := range noTexts {
		check(question{s, full, 1}, api.ErrSyntax, api.ErrSyntax)
		check(question{s, nil, 1}, api.ErrSyntax, api.ErrSyntax)
		check(question{"000000000", []string{s}, 1}, api.ErrSyntax, api.ErrSyntax)
		check(question{"000000000", []string{"000000000", s, "000000000"}, -1}, api.ErrSyntax, api.ErrSyntax)
		check(question{"000000000", slices.Concat(long, []string{s}), 10}, api.ErrSyntax, api.ErrSyntax)
		check(question{s, long, 10}, api.ErrSyntax, api.ErrSyntax)
	}
	for _, most := range []int{math.MinInt, -1, 10, 11, math.MaxInt} {
		check(question{"000000000", full, most}, api.OK, api.ErrRange)
		check(question{"000000000", long, most}, api.ErrLimit, api.ErrRange)
		check(question{"000000000", nil, most}, api.ErrNone, api.ErrRange)
	}
	for most := range 10 {
		check(question{"000000000", full, most}, api.OK, api.OK)
		check(question{"000000000", long, most}, api.ErrLimit, api.ErrLimit)
		check(question{"000000000", nil, most}, api.ErrNone, api.OK)
	}
	// none of these codes is sound
	if l, e := code.Doubtful("000000001", []string{"000000001", "100000000"}, 9); !slices.Equal(l, []int{0, 1}) || e != api.OK {
		t.Errorf("Doubtful = %v, %d", l, e)
	}
}

// alike tries each choice of places.
func alike(s string) []string {
	like := map[byte]byte{'8': 'B', 'B': '8', '0': 'D', 'D': '0', '5': 'S', 'S': '5', '2': 'Q', 'Q': '2', '6': 'G', 'G': '6'}
	l := []string{}
	for choice := range 512 {
		m := []byte(s)
		for place := range m {
			if other := like[m[place]]; other != 0 && choice>>place&1 == 1 {
				m[place] = other
			}
		}
		if weight(string(m)) == 0 {
			l = append(l, string(m))
		}
	}
	slices.Sort(l)
	return slices.Compact(l)
}

// 6.5
func TestAlike(t *testing.T) {
	for _, c := range []struct {
		s    string
		want []string
	}{
		// none of its signs looks like another one
		{"111111111", nil}, {"A1A13U73V", nil}, {sealed("A1A13U73"), []string{sealed("A1A13U73")}},
		// one set of texts, whichever of them is asked for
		{"000000000", alike("000000000")}, {"DDDDDDDDD", alike("000000000")}, {"D0D0D0D0D", alike("000000000")},
	} {
		if l, e := code.Alike(c.s); !slices.Equal(l, c.want) || e != api.OK {
			t.Errorf("Alike(%q) = %v, %d, not %v", c.s, l, e, c.want)
		}
	}
	// each of the pairs, in both directions
	for _, pair := range []string{"8B", "0D", "5S", "2Q", "6G"} {
		for place := range 8 {
			for i := range 2 {
				sound := sealed(changed("11A1A1C1", place, pair[i]))
				for _, s := range []string{sound, changed(sound, place, pair[1-i])} {
					if l, e := code.Alike(s); !slices.Contains(l, sound) || !slices.Equal(l, alike(s)) || e != api.OK {
						t.Errorf("Alike(%q) = %v, %d", s, l, e)
					}
				}
			}
		}
	}
	for _, s := range noTexts {
		if l, e := code.Alike(s); len(l) != 0 || e != api.ErrSyntax {
			t.Errorf("Alike(%q) = %v, %d", s, l, e)
		}
	}
}

// 6.5
func TestAlikeOfMany(t *testing.T) {
	sizes := map[int]int{}
	for seed := range 3000 {
		s := anyText(seed)
		if seed%2 == 0 { // all signs look like others
			for place, n := range numbers(9, seed, 0, 9) {
				s = changed(s, place, "8B0D5S2Q6G"[n])
			}
		}
		l, e := code.Alike(s)
		if !slices.Equal(l, alike(s)) || e != api.OK {
			t.Errorf("Alike(%q) = %v, %d", s, l, e)
		}
		if slices.Contains(l, s) != code.Sound(s) {
			t.Errorf("Alike(%q) = %v", s, l)
		}
		sizes[len(l)]++
	}
	if sizes[0] == 0 || sizes[1] == 0 || sizes[16] == 0 {
		t.Errorf("there are so many: %v", sizes)
	}
}
