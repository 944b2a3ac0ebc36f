package seam_test

import (
	"math"
	"math/big"
	"slices"
	"testing"

	"cannery/api"
	"cannery/seam"
)

const most = 1000000000 // the greatest number of a chart

// 5.5
func TestMeans(t *testing.T) {
	for _, c := range []struct {
		l             []int
		n             int
		means, ranges []int
	}{
		{[]int{1, 2, 3, 4, 5, 6, 7}, 3, []int{2, 5}, []int{2, 2}},
		{[]int{1, 2, 3, 4, 5, 6}, 3, []int{2, 5}, []int{2, 2}},
		{[]int{1, 2, 3, 4, 5}, 2, []int{1, 3}, []int{1, 1}},
		{[]int{9, -4, 7}, 1, []int{9, -4, 7}, []int{0, 0, 0}},
		{[]int{1, 2}, 3, nil, nil},
		{nil, 1, nil, nil},
		{nil, 100, nil, nil},
		{[]int{7, 2, 5, 3}, 4, []int{4}, []int{5}},
		{[]int{2, 7, 3, 5}, 4, []int{4}, []int{5}},
		// rounded down, also below 0
		{[]int{0, -1, -1, -1, -2, -1, -3, 1}, 2, []int{-1, -1, -2, -1}, []int{1, 0, 1, 4}},
		{[]int{-1, -1, 0, 0, 0, 1}, 3, []int{-1, 0}, []int{1, 1}},
		{[]int{-most, most, most, -most, most - 1, most}, 2, []int{0, 0, most - 1}, []int{2 * most, 2 * most, 1}},
		{slices.Repeat([]int{-most}, 100), 100, []int{-most}, []int{0}},
		{slices.Repeat([]int{most}, 199), 100, []int{most}, []int{0}},
		{slices.Repeat([]int{3}, 10000), 100, slices.Repeat([]int{3}, 100), make([]int, 100)},
	} {
		means, ranges, e := seam.Means(c.l, c.n)
		if !slices.Equal(means, c.means) || !slices.Equal(ranges, c.ranges) || e != api.OK {
			t.Errorf("Means(%v, %d) = %v, %v, %d", c.l, c.n, means, ranges, e)
		}
	}
}

// tooMuch lists what is no list of a chart's numbers.
func tooMuch() [][]int {
	return [][]int{make([]int, 10001), {0, most + 1}, {-most - 1, 0}, {0, 0, 0, math.MaxInt}, {math.MinInt}, append(make([]int, 10000), math.MaxInt)}
}

// 5.5, R2
func TestMeansErrors(t *testing.T) {
	for _, l := range append(tooMuch(), nil, []int{1, 2, 3}) {
		for _, n := range []int{math.MinInt, -1, 0, 101, math.MaxInt} {
			if means, ranges, e := seam.Means(l, n); len(means) != 0 || len(ranges) != 0 || e != api.ErrRange {
				t.Errorf("Means of %d by %d = %v, %v, %d", len(l), n, means, ranges, e)
			}
		}
	}
	for _, l := range tooMuch() {
		for _, n := range []int{1, 2, 100} {
			if means, ranges, e := seam.Means(l, n); len(means) != 0 || len(ranges) != 0 || e != api.ErrLimit {
				t.Errorf("Means of %d by %d = %v, %v, %d", len(l), n, means, ranges, e)
			}
		}
	}
}

// 5.5
func TestLearn(t *testing.T) {
	for _, c := range []struct {
		l             []int
		middle, sigma int
	}{
		{[]int{5, 5}, 5, 1},
		{slices.Repeat([]int{-most}, 10000), -most, 1},
		{[]int{1, 3}, 2, 2},      // 2 of 1: more than 1
		{[]int{0, 4}, 2, 3},      // 8 of 1
		{[]int{0, 0, 6}, 2, 4},   // 24 of 2: more than 3 * 3
		{[]int{0, 3, 6}, 3, 3},   // 18 of 2: just 3 * 3
		{[]int{0, 3, 7}, 3, 4},   // 25 of 2
		{[]int{1, 2}, 1, 1},      // from the rounded middle
		{[]int{-1, 0}, -1, 1},    // rounded down
		{[]int{-1, -2}, -2, 1},   // rounded down
		{[]int{-3, 0, 1}, -1, 3}, // 4 + 1 + 4 of 2
		{[]int{2, 4, 4, 4, 5, 5, 7, 9}, 5, 3},
		// beyond a word: 2 * 10^18 and more, and the most there is
		{[]int{-most, most}, 0, 1414213563},
		{[]int{-most, -most, most}, -333333334, 1154700539},
		{slices.Repeat([]int{-most, most}, 5000), 0, 1000050004},
		{append(slices.Repeat([]int{most}, 9999), -most), 999800000, 20000000},
	} {
		x, e := seam.Learn(c.l)
		if x != (api.Chart{Middle: c.middle, Sigma: c.sigma}) || e != api.OK {
			t.Errorf("Learn of %d numbers = %v, %d, not %d, %d", len(c.l), x, e, c.middle, c.sigma)
		}
	}
}

// 5.5, R6: checked with numbers of any size.
func TestLearnIsLeast(t *testing.T) {
	for seed := range 400 {
		bound := []int{1, 10, 1000, most}[seed%4]
		l := numbers([]int{2, 3, 5, 50, 10000}[seed/4%5], seed, -bound, bound/(1+seed%3))
		x, e := seam.Learn(l)
		sum, squares := 0, new(big.Int)
		for _, n := range l {
			sum += n
			d := big.NewInt(int64(n - x.Middle))
			squares.Add(squares, d.Mul(d, d))
		}
		if e != api.OK || x.Middle*len(l) > sum || (x.Middle+1)*len(l) <= sum {
			t.Errorf("Learn of %d numbers of the sum %d = %v, %d", len(l), sum, x, e)
		}
		enough := func(sigma int) bool {
			s := big.NewInt(int64(sigma))
			s.Mul(s, s).Mul(s, big.NewInt(int64(len(l)-1)))
			return s.Cmp(squares) >= 0
		}
		if x.Sigma < 1 || !enough(x.Sigma) || x.Sigma > 1 && enough(x.Sigma-1) {
			t.Errorf("Learn of %d numbers = %v", len(l), x)
		}
	}
}

// 5.5
func TestLearnErrors(t *testing.T) {
	for _, l := range tooMuch() {
		if x, e := seam.Learn(l); x != (api.Chart{}) || e != api.ErrLimit {
			t.Errorf("Learn of %d = %v, %d", len(l), x, e)
		}
	}
	for _, l := range [][]int{nil, {}, {7}, {most}} {
		if x, e := seam.Learn(l); x != (api.Chart{}) || e != api.ErrNone {
			t.Errorf("Learn of %d = %v, %d", len(l), x, e)
		}
	}
}

// 5.5: of the chart 100, 10.
func TestSignals(t *testing.T) {
	for _, c := range []struct {
		l, adjusted []int
		want        [][2]int
	}{
		{nil, nil, nil},
		{[]int{100, 130, 70}, nil, nil},
		// 1: more than three sigmas
		{[]int{100, 131, 69, 100}, nil, [][2]int{{1, 1}, {2, 1}}},
		{[]int{131}, nil, [][2]int{{0, 1}}},
		{[]int{131, 131}, nil, [][2]int{{0, 1}, {1, 1}}},
		// 2: two of three, which must be there, more than two sigmas, on the same side
		{[]int{100, 121, 121}, nil, [][2]int{{2, 2}}},
		{[]int{121, 100, 121}, nil, [][2]int{{2, 2}}},
		{[]int{121, 121, 100}, nil, [][2]int{{2, 2}}},
		{[]int{121, 121, 60}, nil, [][2]int{{2, 1}, {2, 2}}},
		{[]int{121, 121, 121}, nil, [][2]int{{2, 2}}},
		{[]int{121, 121}, nil, nil},
		{[]int{100, 121, 120, 121, 100}, nil, [][2]int{{3, 2}}},
		{[]int{100, 120, 121, 120, 100}, nil, nil},
		{[]int{100, 121, 100, 100, 121}, nil, nil},
		{[]int{100, 121, 79, 100}, nil, nil},
		{[]int{100, 79, 121, 79, 79}, nil, [][2]int{{3, 2}, {4, 2}}},
		{[]int{100, 79, 80, 80}, nil, nil},
		{[]int{100, 79, 79, 100, 100}, nil, [][2]int{{2, 2}, {3, 2}}},
		// 3: seven on a side
		{[]int{101, 101, 101, 101, 101, 101}, nil, nil},
		{[]int{101, 101, 101, 101, 101, 101, 101}, nil, [][2]int{{6, 3}}},
		{[]int{101, 101, 101, 101, 101, 101, 101, 105, 100, 101}, nil, [][2]int{{6, 3}, {7, 3}}},
		{[]int{99, 98, 97, 96, 97, 98, 99, 100}, nil, [][2]int{{6, 3}}},
		{[]int{101, 101, 101, 100, 101, 101, 101}, nil, nil},
		{[]int{101, 101, 101, 99, 101, 101, 101}, nil, nil},
		{[]int{99, 101, 101, 101, 101, 101, 101, 101}, nil, [][2]int{{7, 3}}},
		{[]int{100, 100, 100, 100, 100, 100, 100}, nil, nil},
		// several at once
		{[]int{101, 101, 101, 101, 101, 121, 131}, nil, [][2]int{{6, 1}, {6, 2}, {6, 3}}},
		// adjustments: the value there is the first one
		{[]int{121, 121, 100}, []int{0}, [][2]int{{2, 2}}},
		{[]int{121, 121, 100}, []int{1}, nil},
		{[]int{121, 121, 100}, []int{2}, nil},
		{[]int{121, 131, 131, 131, 131}, []int{2}, [][2]int{{1, 1}, {2, 1}, {3, 1}, {4, 1}, {4, 2}}},
		{[]int{121, 121, 100, 100, 121, 121, 121}, []int{2, 5}, nil},
		{[]int{121, 121, 100, 121, 121, 100, 121}, []int{2, 4}, [][2]int{{6, 2}}},
		{slices.Repeat([]int{101}, 15), []int{0, 8}, [][2]int{{6, 3}, {7, 3}, {14, 3}}},
		{slices.Repeat([]int{101}, 14), []int{1, 8}, [][2]int{{7, 3}}},
		{slices.Repeat([]int{131}, 3), []int{0, 1, 2}, [][2]int{{0, 1}, {1, 1}, {2, 1}}},
	} {
		l, e := seam.Signals(api.Chart{Middle: 100, Sigma: 10}, c.l, c.adjusted)
		if !slices.Equal(l, c.want) || e != api.OK {
			t.Errorf("Signals of %v, adjusted at %v = %v, %d", c.l, c.adjusted, l, e)
		}
	}
}

// signals follows the sentences about the rules.
func signals(c api.Chart, l, adjusted []int) [][2]int {
	far := func(from, to, sigmas, side int) int {
		n := 0
		for _, v := range l[from:to] {
			if (v-c.Middle)*side > sigmas*c.Sigma {
				n++
			}
		}
		return n
	}
	var list [][2]int
	begin := 0
	for i := range l {
		if slices.Contains(adjusted, i) {
			begin = i
		}
		if far(i, i+1, 3, 1)+far(i, i+1, 3, -1) > 0 {
			list = append(list, [2]int{i, 1})
		}
		if i-2 >= begin && (far(i-2, i+1, 2, 1) >= 2 || far(i-2, i+1, 2, -1) >= 2) {
			list = append(list, [2]int{i, 2})
		}
		if i-6 >= begin && (far(i-6, i+1, 0, 1) == 7 || far(i-6, i+1, 0, -1) == 7) {
			list = append(list, [2]int{i, 3})
		}
	}
	return list
}

// walk makes values that stay for a while on a side of the middle of the chart 100, 10, and some that are far.
func walk(n, seed int) []int {
	l, side := numbers(n, seed, -4, 36), numbers(n, seed+5, 0, 11)
	at := 1
	for i := range l {
		if side[i] == 0 {
			at = -at
		}
		l[i] = 100 + at*l[i]
	}
	return l
}

// some makes strictly ascending indexes of a list of n.
func some(n, seed int) []int {
	var l []int
	for i, x := range numbers(n, seed, 0, 8) {
		if x == 0 {
			l = append(l, i)
		}
	}
	return l
}

// 5.5, P5.6
func TestSignalsOfWalks(t *testing.T) {
	c := api.Chart{Middle: 100, Sigma: 10}
	counts := map[int]int{}
	for seed := range 200 {
		l := walk(60, seed)
		adjusted := some(60, seed)
		if seed%3 == 0 {
			adjusted = nil
		}
		want := signals(c, l, adjusted)
		got, e := seam.Signals(c, l, adjusted)
		if !slices.Equal(got, want) || e != api.OK {
			t.Errorf("Signals of %v, adjusted at %v = %v, %d, not %v", l, adjusted, got, e, want)
		}
		for _, s := range got {
			counts[s[1]]++
		}
		// later values change nothing
		for n := range len(l) {
			first := slices.DeleteFunc(slices.Clone(want), func(s [2]int) bool { return s[0] >= n })
			before := slices.DeleteFunc(slices.Clone(adjusted), func(i int) bool { return i >= n })
			if got, e := seam.Signals(c, l[:n], before); !slices.Equal(got, first) || e != api.OK {
				t.Errorf("Signals of the first %d of %v = %v, %d, not %v", n, l, got, e, first)
			}
		}
		// nor does a value that is added to all
		for _, more := range []int{-most + 1000, -100, -1, 7, most - 1000} {
			moved := slices.Clone(l)
			for i := range moved {
				moved[i] += more
			}
			if got, e := seam.Signals(api.Chart{Middle: 100 + more, Sigma: 10}, moved, adjusted); !slices.Equal(got, want) || e != api.OK {
				t.Errorf("Signals of %v = %v, %d, not %v", moved, got, e, want)
			}
		}
	}
	for rule := 1; rule <= 3; rule++ {
		if counts[rule] < 100 {
			t.Errorf("there are signals of %d only %d times", rule, counts[rule])
		}
	}
}

// 5.5: the ends of what a chart may be.
func TestSignalsAtTheEnds(t *testing.T) {
	for _, c := range []struct {
		chart api.Chart
		l     []int
		want  [][2]int
	}{
		{api.Chart{Middle: 0, Sigma: 1}, []int{3, -3, 4, -4}, [][2]int{{2, 1}, {2, 2}, {3, 1}, {3, 2}}},
		{api.Chart{Middle: most, Sigma: most}, []int{-most, -most, -most}, nil},
		{api.Chart{Middle: most, Sigma: most - 1}, []int{-most, -most, -most}, [][2]int{{2, 2}}},
		{api.Chart{Middle: -most, Sigma: 1}, []int{most, most, most}, [][2]int{{0, 1}, {1, 1}, {2, 1}, {2, 2}}},
		{api.Chart{Middle: most, Sigma: 1}, []int{-most}, [][2]int{{0, 1}}},
	} {
		if l, e := seam.Signals(c.chart, c.l, nil); !slices.Equal(l, c.want) || e != api.OK {
			t.Errorf("Signals of %v in %v = %v, %d", c.l, c.chart, l, e)
		}
	}
	if l, e := seam.Signals(api.Chart{Middle: 1, Sigma: 1}, make([]int, 10000), []int{0, 9999}); len(l) != 9993 || e != api.OK {
		t.Errorf("there are %d signals, %d", len(l), e)
	}
}

// 5.5, R2
func TestSignalsErrors(t *testing.T) {
	c := api.Chart{Middle: 100, Sigma: 10}
	beyond := slices.Concat(
		changed(c, func(c *api.Chart, n int) { c.Middle = n }, math.MinInt, -most-1, most+1, math.MaxInt),
		changed(c, func(c *api.Chart, n int) { c.Sigma = n }, math.MinInt, -1, 0, most+1, math.MaxInt),
	)
	for _, x := range beyond {
		for _, l := range append(tooMuch(), nil, []int{131}) {
			for _, adjusted := range [][]int{nil, {0}, {7, 3}} {
				if s, e := seam.Signals(x, l, adjusted); len(s) != 0 || e != api.ErrInvalid {
					t.Errorf("Signals of %v = %v, %d", x, s, e)
				}
			}
		}
	}
	for _, l := range tooMuch() {
		for _, adjusted := range [][]int{nil, {0}, {-1}, {1, 1}} {
			if s, e := seam.Signals(c, l, adjusted); len(s) != 0 || e != api.ErrLimit {
				t.Errorf("Signals of %d = %v, %d", len(l), s, e)
			}
		}
	}
	for _, adjusted := range [][]int{{-1}, {3}, {0, 0}, {2, 1}, {0, 1, 1}, {0, 1, 2, 3}, {math.MinInt, 0}, {1, math.MaxInt}, {0, 2, 1}} {
		if s, e := seam.Signals(c, []int{131, 131, 131}, adjusted); len(s) != 0 || e != api.ErrRange {
			t.Errorf("Signals, adjusted at %v = %v, %d", adjusted, s, e)
		}
	}
	if s, e := seam.Signals(c, nil, []int{0}); len(s) != 0 || e != api.ErrRange {
		t.Errorf("Signals of nothing, adjusted = %v, %d", s, e)
	}
}
