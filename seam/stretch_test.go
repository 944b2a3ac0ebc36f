package seam_test

import (
	"math"
	"slices"
	"testing"

	"cannery/api"
	"cannery/seam"
)

// stretches makes stretches of pairs of ticks.
func stretches(l ...int) []api.Stretch {
	var list []api.Stretch
	for i := 0; i < len(l); i += 2 {
		list = append(list, api.Stretch{From: l[i], To: l[i+1]})
	}
	return list
}

// 5.4
func TestUnion(t *testing.T) {
	for _, c := range []struct {
		l, want []api.Stretch
		length  int
	}{
		{nil, nil, 0},
		{stretches(3, 3), nil, 0},
		{stretches(4, 3, math.MaxInt, math.MinInt, 0, 0), nil, 0},
		{stretches(3, 4), stretches(3, 4), 1},
		{stretches(3, 5, 5, 9), stretches(3, 9), 6},
		{stretches(5, 9, 3, 5), stretches(3, 9), 6},
		{stretches(3, 5, 6, 9), stretches(3, 5, 6, 9), 5},
		{stretches(6, 9, 3, 5), stretches(3, 5, 6, 9), 5},
		{stretches(0, 9, 3, 5), stretches(0, 9), 9},
		{stretches(3, 5, 0, 9), stretches(0, 9), 9},
		{stretches(3, 5, 3, 9, 3, 4), stretches(3, 9), 6},
		{stretches(0, 9, 2, 4, 8, 12), stretches(0, 12), 12},
		{stretches(0, 10, 2, 4, 6, 8), stretches(0, 10), 10},
		// what has no ticks joins nothing, and is no end
		{stretches(3, 5, 6, 5, 6, 9), stretches(3, 5, 6, 9), 5},
		{stretches(0, 3, 3, 0, 4, 4, 5, 6), stretches(0, 3, 5, 6), 4},
		{stretches(-7, -3, -2, 2), stretches(-7, -3, -2, 2), 8},
		{stretches(math.MinInt, math.MinInt+2, math.MaxInt-3, math.MaxInt), stretches(math.MinInt, math.MinInt+2, math.MaxInt-3, math.MaxInt), 5},
		{stretches(0, math.MaxInt, 5, 7), stretches(0, math.MaxInt), math.MaxInt},
		{stretches(math.MinInt, -1, -2, -1), stretches(math.MinInt, -1), math.MaxInt},
	} {
		if l := seam.Union(c.l); !slices.Equal(l, c.want) {
			t.Errorf("Union(%v) = %v", c.l, l)
		}
		if n := seam.Length(c.l); n != c.length {
			t.Errorf("Length(%v) = %d", c.l, n)
		}
	}
}

// anyStretches makes some among the ticks -20 to 40.
func anyStretches(n, seed int) []api.Stretch {
	l := stretches(numbers(2*n, seed, -20, 40)...)
	for i := range l {
		if i%2 == 0 {
			l[i].To = min(l[i].From+l[i].To/8, 40)
		}
	}
	return l
}

func has(l []api.Stretch, tick int) bool {
	return slices.ContainsFunc(l, func(s api.Stretch) bool { return s.From <= tick && tick < s.To })
}

// apart reports whether stretches have ticks, are in order, and have ticks in between.
func apart(l []api.Stretch) bool {
	for i, s := range l {
		if s.From >= s.To || i > 0 && l[i-1].To >= s.From {
			return false
		}
	}
	return true
}

// 5.4, P5.4: checked tick by tick.
func TestUnionHasTheSameTicks(t *testing.T) {
	several := 0
	for seed := range 600 {
		l := anyStretches(seed%9, seed)
		union, n := seam.Union(l), 0
		for tick := -25; tick <= 45; tick++ {
			if has(l, tick) != has(union, tick) {
				t.Errorf("Union(%v) = %v", l, union)
			}
			if has(l, tick) {
				n++
			}
		}
		if !apart(union) || seam.Length(l) != n || seam.Length(union) != n || !slices.Equal(seam.Union(union), union) {
			t.Errorf("Union(%v) = %v of %d", l, union, seam.Length(l))
		}
		if len(union) > 2 {
			several++
		}
	}
	if several < 80 {
		t.Errorf("there are several only %d times", several)
	}
}

// P5.4
func TestLengthIsAdditive(t *testing.T) {
	for seed := range 200 {
		l := anyStretches(6, seed)
		var low, high []api.Stretch
		for _, s := range l {
			low = append(low, api.Stretch{From: s.From, To: min(s.To, seed%40)})
			high = append(high, api.Stretch{From: max(s.From, seed%40), To: s.To})
		}
		if seam.Length(low)+seam.Length(high) != seam.Length(l) || seam.Length(append(high, low...)) != seam.Length(l) {
			t.Errorf("Length(%v) = %d", l, seam.Length(l))
		}
	}
}

// 5.4: a long list, which is joined wholly or not at all.
func TestUnionOfMany(t *testing.T) {
	var next, gaps []api.Stretch
	for i := range 100000 {
		at := i * 7919 % 100000 * 3
		next = append(next, api.Stretch{From: at, To: at + 3})
		gaps = append(gaps, api.Stretch{From: at, To: at + 2})
	}
	if l := seam.Union(next); !slices.Equal(l, stretches(0, 300000)) {
		t.Errorf("there are %d", len(l))
	}
	if l := seam.Union(gaps); len(l) != 100000 || !apart(l) || seam.Length(gaps) != 200000 {
		t.Errorf("there are %d", len(l))
	}
}
