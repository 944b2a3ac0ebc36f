package retort_test

import (
	"math"
	"slices"
	"testing"

	"cannery/api"
	"cannery/retort"
)

// bathed makes a record of its baths.
func bathed(l ...int) []api.Reading {
	var r []api.Reading
	for _, b := range l {
		r = append(r, api.Reading{Bath: b})
	}
	return r
}

// 3.5: the document's example, and marks that fall on the last reading or not.
func TestMarks(t *testing.T) {
	for _, c := range []struct {
		baths         []int
		every         int
		marks, credit []int
	}{
		{[]int{10, 9, 8, 12}, 3, []int{10, 12}, []int{10, 10, 10, 12}},
		{[]int{10, 9, 8, 12}, 1, []int{10, 9, 8, 12}, []int{10, 9, 8, 12}},
		{[]int{10, 9, 8, 12}, 2, []int{10, 8, 12}, []int{10, 8, 8, 12}},
		{[]int{10, 9, 8, 12}, 4, []int{10, 12}, []int{10, 10, 10, 12}},
		{[]int{10, 9, 8, 7}, 2000, []int{10, 7}, []int{10, 7, 7, 7}},
		{[]int{5, 9, 3, 8, 1, 9}, 3, []int{5, 8, 9}, []int{5, 5, 5, 8, 8, 9}},
		{[]int{5, 9, 3, 8, 1, 9, 4}, 3, []int{5, 8, 4}, []int{5, 5, 5, 8, 4, 4, 4}},
		{[]int{5, 9, 3, 8, 1, 9, 4, 6}, 3, []int{5, 8, 4, 6}, []int{5, 5, 5, 8, 4, 4, 4, 6}},
		{[]int{7}, 1, []int{7}, []int{7}},
		{[]int{7}, 5, []int{7}, []int{7}},
		{[]int{7, -8}, 5, []int{7, -8}, []int{7, -8}},
		{nil, 1, nil, nil},
		{nil, 2000, nil, nil},
		{[]int{math.MaxInt, 0, math.MinInt}, 2, []int{math.MaxInt, math.MinInt}, []int{math.MaxInt, math.MinInt, math.MinInt}},
	} {
		r := bathed(c.baths...)
		if l, e := retort.Marks(r, c.every); !slices.Equal(l, c.marks) || e != api.OK {
			t.Errorf("Marks(%v, %d) = %v, %d", c.baths, c.every, l, e)
		}
		if l, e := retort.Credit(r, c.every); !slices.Equal(l, c.credit) || e != api.OK {
			t.Errorf("Credit(%v, %d) = %v, %d", c.baths, c.every, l, e)
		}
	}
}

// 3.5, R2: the length comes before the number.
func TestMarksErrors(t *testing.T) {
	for _, every := range []int{math.MinInt, -1, 0, 1, 2000, 2001, math.MaxInt} {
		for _, n := range []int{0, 1, 2000, 2001} {
			want := api.OK
			if every < 1 || every > 2000 {
				want = api.ErrRange
			}
			if n > 2000 {
				want = api.ErrLimit
			}
			r := make([]api.Reading, n)
			if l, e := retort.Marks(r, every); e != want || e != api.OK && len(l) != 0 {
				t.Errorf("Marks of %d readings, every %d: %v, %d", n, every, l, e)
			}
			if l, e := retort.Credit(r, every); e != want || e != api.OK && len(l) != 0 || e == api.OK && len(l) != n {
				t.Errorf("Credit of %d readings, every %d: %v, %d", n, every, l, e)
			}
		}
	}
}

// P3.5
func TestCredit(t *testing.T) {
	for seed := range 30 {
		baths := numbers(seed*7, seed, 0, 9)
		r := bathed(baths...)
		for _, every := range []int{1, 2, 3, 5, 8, 200, 2000} {
			credit, e := retort.Credit(r, every)
			if e != api.OK || len(credit) != len(r) {
				t.Fatalf("Credit of %d readings, every %d: %v, %d", len(r), every, credit, e)
			}
			if every == 1 && !slices.Equal(credit, baths) {
				t.Errorf("Credit of all of %v is %v", baths, credit)
			}
			for i, c := range credit {
				if least := shown(baths, every, i); c != least {
					t.Errorf("of %v, every %d, the reading %d has the credit %d, not %d", baths, every, i, c, least)
				}
			}
		}
	}
}

// shown looks for the marks around a reading step by step.
func shown(baths []int, every, i int) int {
	mark, next := i, i
	for mark%every != 0 && mark != len(baths)-1 {
		mark--
	}
	for next%every != 0 && next != len(baths)-1 {
		next++
	}
	return min(baths[mark], baths[next])
}

// P3.5
func TestMarksOfABeginning(t *testing.T) {
	for seed := range 10 {
		r := bathed(numbers(60, seed, 0, 1000)...)
		for _, every := range []int{1, 2, 3, 7, 59, 60, 2000} {
			all, _ := retort.Marks(r, every)
			for n := range len(r) {
				part, e := retort.Marks(r[:n+1], every)
				if last := len(part) - 1; e != api.OK || part[last] != r[n].Bath || !slices.Equal(part[:last], all[:last]) {
					t.Errorf("the marks of %d of %v, every %d, are %v, %d", n, r, every, part, e)
				}
			}
		}
	}
}
