package seam_test

import (
	"math"
	"slices"
	"testing"

	"cannery/api"
	"cannery/seam"
)

// numbers makes n of them from least to most.
func numbers(n, seed, least, most int) []int {
	l := make([]int, n)
	for i := range l {
		seed = (seed*1103515245 + 12345) % 2147483648
		l[i] = least + seed/8%(most-least+1)
	}
	return l
}

// norm is one by which the sheets of sheet are good.
func norm() api.Norm {
	return api.Norm{BodyLo: 1900, BodyHi: 2200, CoverLo: 1800, CoverHi: 2100, Percent: 45, Wrinkle: 30, ThickLo: 1100, ThickHi: 1300, SinkLo: 3000, SinkHi: 3300}
}

// sheet is the example's, with the overlap 1,120 and 47 per cent.
func sheet(tick, head int) api.Sheet {
	return api.Sheet{
		Tick: tick, Head: head, BodyHook: 2000, CoverHook: 1900, Height: 3000,
		EndPlate: 200, BodyPlate: 180, Wrinkle: 10, Thickness: 1200, Countersink: 3200,
	}
}

// wrinkled is a bad sheet.
func wrinkled(tick, head int) api.Sheet {
	x := sheet(tick, head)
	x.Wrinkle = 31
	return x
}

// changed returns copies of a value, each with a number put in.
func changed[T any](x T, put func(x *T, n int), numbers ...int) []T {
	var l []T
	for _, n := range numbers {
		y := x
		put(&y, n)
		l = append(l, y)
	}
	return l
}

// bound is a field of a value and what it may be.
type bound[T any] struct {
	least, most int
	field       func(*T) *int
}

// around returns copies of a value that are just within the bounds, and ones that are beyond them.
func around[T any](x T, bounds []bound[T]) (within, beyond []T) {
	for _, b := range bounds {
		put := func(x *T, n int) { *b.field(x) = n }
		within = append(within, changed(x, put, b.least, b.least+1, b.most-1, b.most)...)
		beyond = append(beyond, changed(x, put, math.MinInt, b.least-1, b.most+1, math.MaxInt)...)
	}
	return within, beyond
}

func sheetBounds() []bound[api.Sheet] {
	return []bound[api.Sheet]{
		{0, 100000000, func(x *api.Sheet) *int { return &x.Tick }},
		{1, 12, func(x *api.Sheet) *int { return &x.Head }},
		{0, 20000, func(x *api.Sheet) *int { return &x.BodyHook }},
		{0, 20000, func(x *api.Sheet) *int { return &x.CoverHook }},
		{0, 20000, func(x *api.Sheet) *int { return &x.Height }},
		{1, 1000, func(x *api.Sheet) *int { return &x.EndPlate }},
		{1, 1000, func(x *api.Sheet) *int { return &x.BodyPlate }},
		{0, 100, func(x *api.Sheet) *int { return &x.Wrinkle }},
		{0, 20000, func(x *api.Sheet) *int { return &x.Thickness }},
		{0, 20000, func(x *api.Sheet) *int { return &x.Countersink }},
	}
}

func badSheets() []api.Sheet {
	_, beyond := around(sheet(7, 1), sheetBounds())
	return append(beyond, api.Sheet{}, api.Sheet{Tick: math.MaxInt, BodyHook: math.MaxInt, CoverHook: math.MaxInt, Height: math.MinInt, EndPlate: math.MaxInt})
}

// wide is a norm in whose bounds each Lo and each Hi may be anything that a length may be.
func wide() api.Norm {
	return api.Norm{BodyLo: 0, BodyHi: 20000, CoverLo: 0, CoverHi: 20000, ThickLo: 0, ThickHi: 20000, SinkLo: 0, SinkHi: 20000}
}

func normBounds() []bound[api.Norm] {
	return []bound[api.Norm]{
		{0, 20000, func(n *api.Norm) *int { return &n.BodyLo }},
		{0, 20000, func(n *api.Norm) *int { return &n.BodyHi }},
		{0, 20000, func(n *api.Norm) *int { return &n.CoverLo }},
		{0, 20000, func(n *api.Norm) *int { return &n.CoverHi }},
		{0, 20000, func(n *api.Norm) *int { return &n.ThickLo }},
		{0, 20000, func(n *api.Norm) *int { return &n.ThickHi }},
		{0, 20000, func(n *api.Norm) *int { return &n.SinkLo }},
		{0, 20000, func(n *api.Norm) *int { return &n.SinkHi }},
		{0, 100, func(n *api.Norm) *int { return &n.Percent }},
		{0, 100, func(n *api.Norm) *int { return &n.Wrinkle }},
	}
}

func badNorms() []api.Norm {
	_, beyond := around(wide(), normBounds())
	n := norm()
	n.BodyLo = n.BodyHi + 1
	m := norm()
	m.CoverHi = m.CoverLo - 1
	o := norm()
	o.ThickLo, o.ThickHi = 5, 4
	p := norm()
	p.SinkLo, p.SinkHi = 20000, 19999
	return append(beyond, n, m, o, p)
}

// 5.1
func TestValidSheet(t *testing.T) {
	within, _ := around(sheet(7, 1), sheetBounds())
	for _, x := range append(within, sheet(0, 1)) {
		if !seam.ValidSheet(x) || !seam.ValidSheets([]api.Sheet{x}) {
			t.Errorf("%v is not valid", x)
		}
	}
	for _, x := range badSheets() {
		if seam.ValidSheet(x) || seam.ValidSheets([]api.Sheet{x}) {
			t.Errorf("%v is valid", x)
		}
	}
}

// sheetsAt makes a good sheet for each tick and head.
func sheetsAt(l ...[2]int) []api.Sheet {
	var sheets []api.Sheet
	for _, at := range l {
		sheets = append(sheets, sheet(at[0], at[1]))
	}
	return sheets
}

// many makes n sheets, those of three heads at each tick.
func many(n int) []api.Sheet {
	var l []api.Sheet
	for i := range n {
		l = append(l, sheet(i/3*7, i%3*5+1))
	}
	return l
}

func badLists() [][]api.Sheet {
	l := [][]api.Sheet{
		sheetsAt([2]int{5, 1}, [2]int{4, 1}),
		sheetsAt([2]int{5, 1}, [2]int{4, 2}),
		sheetsAt([2]int{5, 2}, [2]int{5, 2}),
		sheetsAt([2]int{5, 2}, [2]int{5, 1}),
		sheetsAt([2]int{1, 1}, [2]int{5, 3}, [2]int{6, 1}, [2]int{5, 4}),
		many(501),
		append(many(499), api.Sheet{}, api.Sheet{}),
	}
	for _, x := range badSheets() {
		l = append(l, []api.Sheet{sheet(0, 1), x}, []api.Sheet{x, sheet(100000000, 12)})
	}
	return l
}

// 5.1
func TestValidSheets(t *testing.T) {
	for _, l := range [][]api.Sheet{
		nil,
		{},
		sheetsAt([2]int{0, 1}, [2]int{0, 2}, [2]int{0, 12}, [2]int{1, 1}, [2]int{100000000, 5}, [2]int{100000000, 6}),
		sheetsAt([2]int{5, 2}, [2]int{6, 1}),
		many(499),
		many(500),
	} {
		if !seam.ValidSheets(l) {
			t.Errorf("%v are not valid", l)
		}
	}
	for _, l := range badLists() {
		if seam.ValidSheets(l) {
			t.Errorf("%v are valid", l)
		}
	}
}

// 5.1
func TestValidNorm(t *testing.T) {
	within, _ := around(wide(), normBounds())
	narrow := api.Norm{BodyLo: 5, BodyHi: 5, CoverLo: 6, CoverHi: 6, ThickLo: 7, ThickHi: 7, SinkLo: 20000, SinkHi: 20000, Percent: 100, Wrinkle: 100}
	for _, n := range append(within, norm(), wide(), narrow, api.Norm{}) {
		if !seam.ValidNorm(n) {
			t.Errorf("%v is not valid", n)
		}
	}
	for _, n := range badNorms() {
		if seam.ValidNorm(n) {
			t.Errorf("%v is valid", n)
		}
	}
}

// 5.1: the example, and fractions, numbers below 0, and rooms that are none.
func TestOverlapAndPercent(t *testing.T) {
	for _, c := range []struct {
		body, cover, height, end, plate int
		overlap, percent                int
	}{
		{2000, 1900, 3000, 200, 180, 1120, 47},
		// the overlap 1.1 of the room 96.7; 2.1 of 0.7, which is just three times as much
		{0, 100, 100, 1, 1, 1, 1},
		{2, 3, 4, 1, 1, 2, 300},
		{2, 3, 5, 1, 1, 1, 64},
		// 10 whole ends, 9.9 and 8.8
		{0, 0, 0, 10, 1, 11, 0},
		{0, 0, 0, 9, 1, 9, 0},
		{0, 0, 0, 8, 1, 8, 0},
		// below 0: -2,998.9 of 2,996.7; -98.9 of 96.7; -0.9; -2.8
		{0, 0, 3000, 1, 1, -2999, -101},
		{0, 0, 100, 1, 1, -99, -103},
		{0, 0, 2, 1, 1, -1, 0},
		{0, 0, 5, 2, 1, -3, 0},
		// just 0, and just below 0: -0.1 of 96.7 less 8 * 2.2
		{0, 89, 100, 10, 1, 0, 0},
		{0, 90, 100, 9, 1, -1, -1},
		// the rooms 0.1 and -0.1
		{5, 5, 10, 4, 1, 4, 4400},
		{5, 5, 12, 5, 1, 3, 0},
		// the rooms 0, 1 and -1
		{1000, 1000, 33, 10, 10, 1978, 0},
		{1000, 1000, 34, 10, 10, 1977, 197700},
		{1000, 1000, 32, 10, 10, 1979, 0},
		{20000, 20000, 0, 1000, 1000, 41100, 0},
		{0, 0, 20000, 1, 1, -19999, -101},
		{0, 3780, 3000, 200, 180, 1000, 42},
		{20000, 20000, 20000, 1, 1, 20001, 100},
		{20000, 20000, 4, 1, 1, 39997, 5713871},
	} {
		x := sheet(1, 1)
		x.BodyHook, x.CoverHook, x.Height, x.EndPlate, x.BodyPlate = c.body, c.cover, c.height, c.end, c.plate
		if n, e := seam.Overlap(x); n != c.overlap || e != api.OK {
			t.Errorf("Overlap of %v = %d, %d", c, n, e)
		}
		if n, e := seam.Percent(x); n != c.percent || e != api.OK {
			t.Errorf("Percent of %v = %d, %d", c, n, e)
		}
	}
}

// 5.1: checked by multiplication, without a quotient.
func TestOverlapAndPercentOfMany(t *testing.T) {
	for seed := range 2000 {
		l, p := numbers(3, seed, 0, 5000), numbers(2, seed, 1, 800)
		x := sheet(1, 1)
		x.BodyHook, x.CoverHook, x.Height, x.EndPlate, x.BodyPlate = l[0], l[1], l[2], p[0], p[1]
		tenths := 10*l[0] + 10*l[1] - 10*l[2] + 11*p[0]
		room := 10*l[2] - 22*p[0] - 11*p[1]
		if n, e := seam.Overlap(x); n*10 > tenths || n*10+9 < tenths || e != api.OK {
			t.Errorf("Overlap of %v = %d, %d", x, n, e)
		}
		n, e := seam.Percent(x)
		if e != api.OK || room <= 0 && n != 0 || room > 0 && (n*room > 100*tenths || (n+1)*room <= 100*tenths) {
			t.Errorf("Percent of %v = %d, %d", x, n, e)
		}
	}
}

// 5.1
func TestGoodAndFaults(t *testing.T) {
	all := []string{"body", "cover", "overlap", "wrinkle", "thickness", "countersink"}
	for _, c := range []struct {
		change func(*api.Sheet)
		faults []string
	}{
		{func(x *api.Sheet) {}, nil},
		{func(x *api.Sheet) { x.BodyHook = 1900 }, []string{"overlap"}}, // the per cent is 43
		{func(x *api.Sheet) { x.BodyHook = 1960 }, nil},                 // 45.7
		{func(x *api.Sheet) { x.BodyHook = 1942 }, []string{"overlap"}}, // 44.9
		{func(x *api.Sheet) { x.BodyHook = 1943 }, nil},                 // 45.0
		{func(x *api.Sheet) { x.BodyHook = 2200 }, nil},
		{func(x *api.Sheet) { x.BodyHook = 2201 }, all[:1]},
		{func(x *api.Sheet) { x.BodyHook, x.CoverHook = 1900, 2100 }, nil},
		{func(x *api.Sheet) { x.BodyHook, x.CoverHook = 1899, 2100 }, all[:1]},
		{func(x *api.Sheet) { x.CoverHook = 2100 }, nil},
		{func(x *api.Sheet) { x.CoverHook = 2101 }, all[1:2]},
		{func(x *api.Sheet) { x.BodyHook, x.CoverHook = 2200, 1800 }, nil},
		{func(x *api.Sheet) { x.BodyHook, x.CoverHook = 2200, 1799 }, all[1:2]},
		{func(x *api.Sheet) { x.Wrinkle = 30 }, nil},
		{func(x *api.Sheet) { x.Wrinkle = 31 }, all[3:4]},
		{func(x *api.Sheet) { x.Wrinkle = 0 }, nil},
		{func(x *api.Sheet) { x.Thickness = 1100 }, nil},
		{func(x *api.Sheet) { x.Thickness = 1099 }, all[4:5]},
		{func(x *api.Sheet) { x.Thickness = 1300 }, nil},
		{func(x *api.Sheet) { x.Thickness = 1301 }, all[4:5]},
		{func(x *api.Sheet) { x.Countersink = 3000 }, nil},
		{func(x *api.Sheet) { x.Countersink = 2999 }, all[5:]},
		{func(x *api.Sheet) { x.Countersink = 3300 }, nil},
		{func(x *api.Sheet) { x.Countersink = 3301 }, all[5:]},
		{func(x *api.Sheet) { x.Height = 600 }, all[2:3]}, // no room: 0 per cent
		{func(x *api.Sheet) { *x = api.Sheet{Tick: 1, Head: 1, EndPlate: 1, BodyPlate: 1, Wrinkle: 100} }, all},
		{func(x *api.Sheet) { x.BodyHook, x.Thickness = 0, 0 }, []string{"body", "overlap", "thickness"}},
		{func(x *api.Sheet) { x.CoverHook, x.Countersink = 20000, 20000 }, []string{"cover", "countersink"}},
	} {
		x := sheet(7, 3)
		c.change(&x)
		if ok, e := seam.Good(norm(), x); ok != (len(c.faults) == 0) || e != api.OK {
			t.Errorf("Good(%v) = %t, %d", x, ok, e)
		}
		if l, e := seam.Faults(norm(), x); !slices.Equal(l, c.faults) || e != api.OK {
			t.Errorf("Faults(%v) = %v, %d", x, l, e)
		}
	}
}

// 5.1: where no per cent is asked for, no room is enough; a negative overlap is not.
func TestGoodWithoutPercent(t *testing.T) {
	n := wide()
	x := api.Sheet{Head: 1, EndPlate: 1, BodyPlate: 1}
	for height, want := range map[int]bool{0: true, 1: true, 3: true, 4: false, 3000: false} {
		x.Height = height
		if ok, e := seam.Good(n, x); ok != want || e != api.OK {
			t.Errorf("Good of %v = %t, %d", x, ok, e)
		}
	}
}

// 5.1, R3
func TestSheetErrors(t *testing.T) {
	for _, x := range badSheets() {
		if n, e := seam.Overlap(x); n != 0 || e != api.ErrInvalid {
			t.Errorf("Overlap(%v) = %d, %d", x, n, e)
		}
		if n, e := seam.Percent(x); n != 0 || e != api.ErrInvalid {
			t.Errorf("Percent(%v) = %d, %d", x, n, e)
		}
		if ok, e := seam.Good(norm(), x); ok || e != api.ErrInvalid {
			t.Errorf("Good(%v) = %t, %d", x, ok, e)
		}
		if l, e := seam.Faults(norm(), x); len(l) != 0 || e != api.ErrInvalid {
			t.Errorf("Faults(%v) = %v, %d", x, l, e)
		}
	}
	for _, n := range badNorms() {
		if ok, e := seam.Good(n, sheet(1, 1)); ok || e != api.ErrInvalid {
			t.Errorf("Good by %v = %t, %d", n, ok, e)
		}
		if l, e := seam.Faults(n, wrinkled(1, 1)); len(l) != 0 || e != api.ErrInvalid {
			t.Errorf("Faults by %v = %v, %d", n, l, e)
		}
	}
}

// 5.1
func TestHeads(t *testing.T) {
	for _, c := range []struct {
		l    []api.Sheet
		want []int
	}{
		{nil, nil},
		{sheetsAt([2]int{9, 7}), []int{7}},
		{sheetsAt([2]int{0, 12}, [2]int{1, 3}, [2]int{1, 12}, [2]int{2, 1}, [2]int{3, 3}), []int{1, 3, 12}},
		{[]api.Sheet{wrinkled(0, 5), sheet(0, 6), wrinkled(1, 4)}, []int{4, 5, 6}},
		{many(500), []int{1, 6, 11}},
	} {
		if l := seam.Heads(c.l); !slices.Equal(l, c.want) {
			t.Errorf("Heads(%v) = %v", c.l, l)
		}
	}
	var all []api.Sheet
	for head := 1; head <= 12; head++ {
		all = append(all, sheet(head, 13-head))
	}
	if l := seam.Heads(all); !slices.Equal(l, []int{1, 2, 3, 4, 5, 6, 7, 8, 9, 10, 11, 12}) {
		t.Errorf("Heads of all = %v", l)
	}
	for _, l := range badLists() {
		if heads := seam.Heads(l); len(heads) != 0 {
			t.Errorf("Heads(%v) = %v", l, heads)
		}
	}
}
