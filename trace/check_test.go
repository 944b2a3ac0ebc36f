package trace_test

import (
	"fmt"
	"math"
	"slices"
	"testing"

	"cannery/api"
	"cannery/trace"
)

// graph is lots and uses.
type graph struct {
	l []api.Lot
	u []api.Use
}

// String tells a graph, the beginning of a long one.
func (g graph) String() string {
	s := fmt.Sprint(g.l, g.u)
	return s[:min(len(s), 1000)]
}

// cannery is the chapter's example.
func cannery() graph {
	return graph{
		[]api.Lot{{Name: "fish", At: 0, Size: 100}, {Name: "brine", At: 0, Size: 50}, {Name: "batch", At: 1, Size: 120}, {Name: "cans", At: 2, Size: 60}},
		[]api.Use{use("fish", "batch", 90, 100), use("brine", "batch", 20, 30), use("batch", "cans", 50, 60)},
	}
}

func lot(name string, at, size int) api.Lot { return api.Lot{Name: name, At: at, Size: size} }

func use(from, to string, least, most int) api.Use {
	return api.Use{From: from, To: to, Least: least, Most: most}
}

// named makes n lots of now with names of their own.
func named(n int) []api.Lot {
	l := make([]api.Lot, n)
	for i := range l {
		l[i] = lot(fmt.Sprintf("lot%d", i), i, 1000)
	}
	return l
}

// ladder has lots each of which is used in up to `ahead` of the next ones: so there are very many chains.
func ladder(n, ahead int) graph {
	g := graph{l: named(n)}
	for i := range n {
		for j := i + 1; j < n && j <= i+ahead; j++ {
			g.u = append(g.u, use(g.l[i].Name, g.l[j].Name, 1, 1000))
		}
	}
	return g
}

// full has as many lots and uses as there may be.
func full() graph {
	g := ladder(200, 6)
	g.u = g.u[:1000]
	return g
}

// numbers makes n of them from 0 to most.
func numbers(n, seed, most int) []int {
	l := make([]int, n)
	for i := range l {
		seed = (seed*1103515245 + 12345) % 2147483648
		l[i] = seed / 8 % (most + 1)
	}
	return l
}

// some makes a graph of n lots, in any order of their At, of which some are used in some that are later.
func some(n, seed int) graph {
	r := numbers(3*n+4*n*n, seed, 1<<20)
	next := func(most int) int {
		x := r[0] % (most + 1)
		r = r[1:]
		return x
	}
	var g graph
	for i := range n {
		g.l = append(g.l, lot(fmt.Sprintf("%c%d", 'a'+next(25), i), next(n), 1+next(99)))
	}
	often := 1 + seed%4
	for range n * n {
		x, y, m := g.l[next(n-1)], g.l[next(n-1)], next(1<<20)
		again := slices.ContainsFunc(g.u, func(z api.Use) bool { return z.From == x.Name && z.To == y.Name })
		if x.At >= y.At || again || m%5 > often {
			continue
		}
		room := y.Size
		for _, z := range g.u {
			if z.To == y.Name {
				room -= z.Least
			}
		}
		most := 1 + m/5%y.Size
		g.u = append(g.u, use(x.Name, y.Name, min(room, most-m/500%(most+1)), most))
	}
	return g
}

// names returns the names of the lots.
func (g graph) names() []string {
	var names []string
	for _, x := range g.l {
		names = append(names, x.Name)
	}
	return names
}

// goodGraphs lists graphs that are valid, at the limits.
func goodGraphs() []graph {
	list := []graph{
		{},
		{[]api.Lot{}, []api.Use{}},
		cannery(),
		full(),
		{l: named(200)},
		{l: []api.Lot{lot("a", 0, 1)}},
		{l: []api.Lot{lot("sixteen_letters1", 100000000, 1000000000)}},
		// lots in another order than in time
		{[]api.Lot{lot("late", 9, 5), lot("early", 8, 5)}, []api.Use{use("early", "late", 0, 1)}},
		// uses at the limits of their lots
		{[]api.Lot{lot("a", 0, 1), lot("b", 100000000, 1000000000)}, []api.Use{use("a", "b", 1000000000, 1000000000)}},
		{[]api.Lot{lot("a", 0, 7), lot("b", 0, 7), lot("c", 1, 7)}, []api.Use{use("a", "c", 3, 7), use("b", "c", 4, 7)}},
		// more goes out than there is
		{[]api.Lot{lot("a", 0, 7), lot("b", 1, 7), lot("c", 1, 7)}, []api.Use{use("a", "b", 7, 7), use("a", "c", 7, 7)}},
	}
	for seed := range 30 {
		list = append(list, some(1+seed%12, seed))
	}
	return list
}

// badGraph is a graph and its error.
type badGraph struct {
	graph
	want api.Errno
}

func badLots() []badGraph {
	var list []badGraph
	for _, name := range []string{"", "Fish", "7up", "_x", "two words", "fi-sh", "seventeenletters_", "pois\xc3\xa9", "a\n", "a\x00"} {
		list = append(list, badGraph{graph{l: []api.Lot{lot(name, 0, 1)}}, api.ErrInvalid})
	}
	for _, n := range []int{math.MinInt, -1, 100000001, math.MaxInt} {
		list = append(list, badGraph{graph{l: []api.Lot{lot("a", n, 1)}}, api.ErrRange})
	}
	for _, n := range []int{math.MinInt, -1, 0, 1000000001, math.MaxInt} {
		list = append(list, badGraph{graph{l: []api.Lot{lot("a", 0, n)}}, api.ErrRange})
	}
	twice := lot("lot7", 4, 4)
	return append(list,
		badGraph{graph{l: named(201)}, api.ErrLimit},
		badGraph{graph{l: append(named(200), lot("", -1, 0))}, api.ErrLimit},
		badGraph{graph{l: make([]api.Lot, 201)}, api.ErrLimit},
		badGraph{graph{l: make([]api.Lot, 200)}, api.ErrInvalid},
		badGraph{graph{l: append(named(8), twice)}, api.ErrDuplicate},
		badGraph{graph{l: append(named(199), named(1)...)}, api.ErrDuplicate},
		// of several errors the first one, by the lots and then by their order
		badGraph{graph{l: append(named(8), lot("lot7", -1, 0))}, api.ErrDuplicate},
		badGraph{graph{l: []api.Lot{lot("A", -1, 0)}}, api.ErrInvalid},
		badGraph{graph{l: append(named(8), lot("a", -1, 1), twice)}, api.ErrRange},
		badGraph{graph{l: append(named(8), twice, lot("a", -1, 1))}, api.ErrDuplicate},
		badGraph{graph{l: append(named(8), lot("a", 0, 0), lot("B", 0, 1))}, api.ErrRange},
		badGraph{graph{l: append(named(8), lot("B", 0, 1), twice)}, api.ErrInvalid},
		// lots before uses
		badGraph{graph{[]api.Lot{lot("a", -1, 1)}, make([]api.Use, 1001)}, api.ErrRange},
		badGraph{graph{[]api.Lot{lot("a", 0, 1), lot("a", 0, 1)}, []api.Use{use("x", "y", 0, 1)}}, api.ErrDuplicate},
		badGraph{graph{[]api.Lot{lot("", 0, 1)}, []api.Use{use("", "", 0, 1)}}, api.ErrInvalid},
	)
}

func badUses() []badGraph {
	l := []api.Lot{lot("a", 5, 10), lot("b", 6, 20), lot("c", 7, 30), lot("d", 7, 40)}
	good := use("a", "b", 1, 10)
	list := []badGraph{
		{graph{l, make([]api.Use, 1001)}, api.ErrLimit},
		{graph{full().l, append(full().u, use("lot0", "lot9", 0, 1))}, api.ErrLimit},
		{graph{full().l, append(full().u, use("x", "y", 1, 0))}, api.ErrLimit},
		{graph{nil, []api.Use{good}}, api.ErrName},
		{graph{nil, []api.Use{{}}}, api.ErrName},
	}
	for want, uses := range map[api.Errno][]api.Use{
		api.ErrName: {
			use("x", "b", 1, 10), use("a", "x", 1, 10), use("x", "y", 1, 10), use("", "b", 1, 10), use("a", "", 1, 10), use("A", "b", 1, 10),
			use("x", "b", 1, 0), use("b", "x", 1, 0), use("x", "x", 1, 10),
		},
		api.ErrRange: {
			use("a", "b", 0, 0), use("a", "b", 1, 0), use("a", "b", 6, 5), use("a", "b", -1, 5), use("a", "b", 0, 21), use("a", "b", 21, 21),
			use("a", "b", math.MinInt, 5), use("a", "b", 0, math.MaxInt), use("a", "b", math.MinInt, math.MaxInt), use("a", "b", math.MaxInt, 5),
			use("a", "b", -2, -1), use("a", "b", math.MinInt, math.MinInt),
			use("b", "a", 0, 20), use("c", "d", 0, 41), use("a", "a", 0, 0),
		},
		api.ErrOrder: {
			use("b", "a", 0, 10), use("c", "d", 0, 40), use("d", "c", 30, 30), use("a", "a", 0, 1), use("c", "a", 0, 1),
		},
		api.ErrDuplicate: {use("a", "b", 1, 10), use("a", "b", 0, 1), use("a", "b", 20, 20)},
	} {
		for _, x := range uses {
			list = append(list, badGraph{graph{l, []api.Use{good, x}}, want})
			list = append(list, badGraph{graph{l, []api.Use{use("b", "c", 30, 30), good, x, {}}}, want})
			// the sums are looked at last
			list = append(list, badGraph{graph{l, []api.Use{use("a", "c", 30, 30), use("b", "c", 1, 1), good, x}}, want})
		}
	}
	return append(list,
		badGraph{graph{l, []api.Use{good, use("b", "a", 0, 1), good}}, api.ErrOrder},
		badGraph{graph{l, []api.Use{good, good, use("b", "a", 0, 1)}}, api.ErrDuplicate},
		badGraph{graph{l, []api.Use{use("a", "c", 10, 30), use("b", "c", 21, 30)}}, api.ErrRange},
		badGraph{graph{l, []api.Use{good, use("a", "d", 40, 40), use("b", "d", 1, 30)}}, api.ErrRange},
		badGraph{graph{l, []api.Use{use("a", "d", 40, 40), use("b", "d", 1, 30), use("x", "y", 0, 1)}}, api.ErrName},
		badGraph{manyLeasts(), api.ErrRange},
	)
}

// manyLeasts has leasts that add up to much more than any Size.
func manyLeasts() graph {
	var g graph
	for i := range 100 {
		g.l = append(g.l, lot(fmt.Sprintf("x%d", i), 0, 1), lot(fmt.Sprintf("y%d", i), 1, 1000000000))
	}
	for i := range 10 {
		for j := range 100 {
			g.u = append(g.u, use(fmt.Sprintf("x%d", j), fmt.Sprintf("y%d", i), 1000000000, 1000000000))
		}
	}
	return g
}

func badGraphs() []badGraph { return append(badLots(), badUses()...) }

// 8.1
func TestCheck(t *testing.T) {
	for _, g := range goodGraphs() {
		if e := trace.Check(g.l, g.u); e != api.OK {
			t.Errorf("Check(%v) = %d", g, e)
		}
	}
}

// 8.1, R2
func TestCheckErrors(t *testing.T) {
	for _, g := range badGraphs() {
		if e := trace.Check(g.l, g.u); e != g.want {
			t.Errorf("Check(%v) = %d, not %d", g.graph, e, g.want)
		}
	}
}

// 8.1: the number of a use's bounds is between 0 and the Size of its To, whatever its From has.
func TestCheckBounds(t *testing.T) {
	l := []api.Lot{lot("a", 0, 2), lot("b", 1, 4)}
	for least := -2; least <= 6; least++ {
		for most := -2; most <= 6; most++ {
			want := api.ErrRange
			if 0 <= least && least <= most && 1 <= most && most <= 4 {
				want = api.OK
			}
			if e := trace.Check(l, []api.Use{use("a", "b", least, most)}); e != want {
				t.Errorf("Check of %d to %d = %d", least, most, e)
			}
		}
	}
}

// 8.1
func TestLot(t *testing.T) {
	l := cannery().l
	for i, name := range []string{"fish", "brine", "batch", "cans"} {
		if n := trace.Lot(l, name); n != i {
			t.Errorf("Lot(%s) = %d", name, n)
		}
	}
	for _, name := range []string{"", "fis", "fishes", "Fish", "can"} {
		if n := trace.Lot(l, name); n != -1 {
			t.Errorf("Lot(%q) = %d", name, n)
		}
	}
	if trace.Lot(nil, "fish") != -1 || trace.Lot([]api.Lot{}, "") != -1 {
		t.Error("Lot of none")
	}
	for i, x := range named(200) {
		if n := trace.Lot(named(200), x.Name); n != i {
			t.Errorf("Lot(%s) = %d", x.Name, n)
		}
	}
}
