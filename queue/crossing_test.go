package queue_test

import (
	"math"
	"slices"
	"testing"

	"cannery/api"
	"cannery/queue"
)

// 7.5
func TestCrossings(t *testing.T) {
	for _, c := range []struct {
		l      []int
		wrong  int
		inside []int
	}{
		{nil, -1, nil},
		{[]int{}, -1, nil},
		{[]int{7}, -1, []int{7}},
		{[]int{7, -7}, -1, nil},
		{[]int{7, 3, -7}, -1, []int{3}},
		{[]int{7, 3, 12, 5, -12}, -1, []int{3, 5, 7}},
		{[]int{3, 7, -3, -7}, -1, nil},
		{[]int{1000001, -1000001, math.MaxInt, 1}, -1, []int{1, math.MaxInt}},
		{[]int{math.MaxInt, -math.MaxInt}, -1, nil},
		// again after it came out
		{[]int{7, -7, 7, -7}, -1, nil},
		{[]int{7, 3, -7, 7}, -1, []int{3, 7}},
		// 0
		{[]int{0}, 0, nil},
		{[]int{7, -7, 0}, 2, nil},
		// in twice
		{[]int{7, 7}, 1, nil},
		{[]int{7, 3, -3, 7, -7, -7}, 3, nil},
		// out without in
		{[]int{-7}, 0, nil},
		{[]int{-7, 7}, 0, nil},
		{[]int{7, -3, 3, -7}, 1, nil},
		{[]int{7, -7, -7}, 2, nil},
		{[]int{3, 7, -3, 7, 0, -5}, 3, nil},
		// the least int, which is its own opposite
		{[]int{math.MinInt}, 0, nil},
		{[]int{math.MaxInt, math.MinInt}, 1, nil},
		{[]int{3, math.MinInt, math.MinInt, -3}, 1, nil},
	} {
		if wrong := queue.Wrong(c.l); wrong != c.wrong {
			t.Errorf("Wrong(%v) = %d", c.l, wrong)
		}
		if clean := queue.Clean(c.l); clean != (c.wrong < 0 && len(c.inside) == 0) {
			t.Errorf("Clean(%v) = %t", c.l, clean)
		}
		want := api.OK
		if c.wrong >= 0 {
			want = api.ErrOrder
		}
		if inside, e := queue.Inside(c.l); !slices.Equal(inside, c.inside) || e != want {
			t.Errorf("Inside(%v) = %v, %d", c.l, inside, e)
		}
	}
}

// isInside reports whether a basket's last crossing is that into a vessel.
func isInside(l []int, n int) bool {
	for _, x := range slices.Backward(l) {
		if x == n || x == -n {
			return x == n
		}
	}
	return false
}

// firstWrong follows the sentence about the first crossing that can't be.
func firstWrong(l []int) int {
	for i, n := range l {
		if n == 0 || n > 0 && isInside(l[:i], n) || n < 0 && !isInside(l[:i], -n) {
			return i
		}
	}
	return -1
}

// walk makes crossings that can be, of baskets up to a number.
func walk(n, seed, most int) []int {
	l := numbers(n, seed, 1, most)
	for i, x := range l {
		if isInside(l[:i], x) {
			l[i] = -x
		}
	}
	return l
}

// 7.5, P7.6: clean crossings have nobody inside, those that can be are clean with those who are inside put out behind them, and one that is changed may be wrong.
func TestCrossingsByTheirSentences(t *testing.T) {
	clean, broken := 0, 0
	for seed := range 1500 {
		l := walk(seed%50, seed, 1+seed%20)
		for _, change := range []int{0, 1, 2} {
			m := slices.Clone(l)
			if len(m) > 0 && change > 0 {
				m[seed*7%len(m)] = []int{0, 1 + seed%20, -1 - seed%20, math.MinInt}[seed/3*change%4]
			}
			wrong := firstWrong(m)
			var want []int
			for n := 1; n <= 20; n++ {
				if wrong < 0 && isInside(m, n) {
					want = append(want, n)
				}
			}
			inside, e := queue.Inside(m)
			if queue.Wrong(m) != wrong || !slices.Equal(inside, want) || (e == api.ErrOrder) != (wrong >= 0) || (e == api.OK) != (wrong < 0) {
				t.Errorf("of %v %d is wrong, and %v, %d are inside", m, queue.Wrong(m), inside, e)
			}
			if queue.Clean(m) != (wrong < 0 && len(want) == 0) {
				t.Errorf("Clean(%v) = %t", m, queue.Clean(m))
			}
			if wrong >= 0 {
				broken++
				continue
			}
			for _, n := range inside {
				m = append(m, -n)
			}
			if inside, e := queue.Inside(m); !queue.Clean(m) || queue.Wrong(m) != -1 || len(inside) != 0 || e != api.OK {
				t.Errorf("%v is not clean: %v, %d", m, inside, e)
			}
			clean++
		}
	}
	if clean < 1000 || broken < 1000 {
		t.Errorf("%d are clean, %d wrong", clean, broken)
	}
}

// 7.5: there may be more crossings than baskets.
func TestManyCrossings(t *testing.T) {
	var l []int
	for n := range 200000 {
		l = append(l, 1+n, 1000000-n, -1-n)
	}
	inside, e := queue.Inside(l)
	if len(inside) != 200000 || inside[0] != 800001 || !slices.IsSorted(inside) || e != api.OK || queue.Clean(l) {
		t.Errorf("Inside of many = %d, %d", len(inside), e)
	}
	if wrong := queue.Wrong(append(l, 900000)); wrong != 600000 {
		t.Errorf("Wrong of many = %d", wrong)
	}
}
