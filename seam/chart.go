package seam

import (
	"math/bits"
	"slices"
	"sort"

	"cannery/api"
)

// Means returns the means and the ranges of the subgroups of n numbers.
func Means(l []int, n int) (means, ranges []int, e api.Errno) {
	if !within(n, 1, mostGroup) {
		return nil, nil, api.ErrRange
	}
	if !charted(l) {
		return nil, nil, api.ErrLimit
	}
	for ; len(l) >= n; l = l[n:] {
		group := l[:n]
		means = append(means, mean(group))
		ranges = append(ranges, slices.Max(group)-slices.Min(group))
	}
	return means, ranges, api.OK
}

// charted reports whether some numbers may be in a chart.
func charted(l []int) bool {
	return len(l) <= mostNumbers && allWithin(-mostNumber, mostNumber, l...)
}

// mean returns the mean of at least one number, rounded down.
func mean(l []int) int {
	sum := 0
	for _, n := range l {
		sum += n
	}
	return floor(sum, len(l))
}

// Learn returns the chart of some numbers.
func Learn(l []int) (api.Chart, api.Errno) {
	if !charted(l) {
		return api.Chart{}, api.ErrLimit
	}
	if len(l) < 2 {
		return api.Chart{}, api.ErrNone
	}
	middle := mean(l)
	var squares wide
	for _, n := range l {
		squares = squares.plus((n - middle) * (n - middle))
	}
	// The square of the most that is tried, times one number less than there are, is above the sum of the squares of any distances.
	less := sort.Search(3*mostNumber, func(n int) bool {
		sigma := n + 1
		return !product(sigma*sigma, len(l)-1).below(squares)
	})
	return api.Chart{Middle: middle, Sigma: less + 1}, api.OK
}

// wide is a whole number of two words: sums of squares go beyond one.
type wide struct{ high, low uint64 }

func product(a, b int) wide {
	high, low := bits.Mul64(uint64(a), uint64(b))
	return wide{high, low}
}

func (x wide) plus(n int) wide {
	low, carry := bits.Add64(x.low, uint64(n), 0)
	return wide{x.high + carry, low}
}

func (x wide) below(y wide) bool {
	return x.high < y.high || x.high == y.high && x.low < y.low
}

// rules are the rules of charts: of how many values in a row how many must be more than how many sigmas from the middle, on the same side.
var rules = [3][3]int{{1, 1, 3}, {3, 2, 2}, {7, 7, 0}}

// Signals returns the signals of a chart in some values: the index and the rule of each.
func Signals(c api.Chart, l []int, adjusted []int) ([][2]int, api.Errno) {
	if !validChart(c) {
		return nil, api.ErrInvalid
	}
	if !charted(l) {
		return nil, api.ErrLimit
	}
	if !indexes(adjusted, len(l)) {
		return nil, api.ErrRange
	}
	var signals [][2]int
	begin := 0 // where the rules began
	for i := range l {
		if len(adjusted) > 0 && adjusted[0] == i {
			begin, adjusted = i, adjusted[1:]
		}
		for rule, r := range rules {
			if signalled(c, l[begin:i+1], r) {
				signals = append(signals, [2]int{i, rule + 1})
			}
		}
	}
	return signals, api.OK
}

func validChart(c api.Chart) bool {
	return within(c.Middle, -mostNumber, mostNumber) && within(c.Sigma, 1, mostNumber)
}

// indexes reports whether some numbers are strictly ascending indexes of a list of n.
func indexes(l []int, n int) bool {
	least := 0
	for _, i := range l {
		if !within(i, least, n-1) {
			return false
		}
		least = i + 1
	}
	return true
}

// signalled reports whether the last of some values is a signal by a rule.
func signalled(c api.Chart, l []int, rule [3]int) bool {
	count, needed, limit := rule[0], rule[1], rule[2]*c.Sigma
	if len(l) < count {
		return false
	}
	above, below := 0, 0
	for _, n := range l[len(l)-count:] {
		if n-c.Middle > limit {
			above++
		}
		if c.Middle-n > limit {
			below++
		}
	}
	return max(above, below) >= needed
}
