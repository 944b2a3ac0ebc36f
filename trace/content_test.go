package trace_test

import (
	"slices"
	"testing"

	"cannery/api"
	"cannery/trace"
)

// contents follows the sentences about what of a lot is in each lot, from the earliest lot on.
func (g graph) contents(x string) (least, most map[string]int) {
	least, most = make(map[string]int), make(map[string]int)
	size := make(map[string]int)
	inTime := slices.Clone(g.l)
	slices.SortStableFunc(inTime, func(a, b api.Lot) int { return a.At - b.At })
	for _, y := range inTime {
		size[y.Name] = y.Size
		if y.Name == x {
			least[x], most[x] = y.Size, y.Size
			continue
		}
		lo, hi := 0, 0
		for _, z := range g.u {
			if z.To != y.Name {
				continue
			}
			other := size[z.From] - least[z.From]
			if taken := min(z.Least, size[z.From]); taken > other {
				lo += taken - other
			}
			hi += min(z.Most, most[z.From])
		}
		least[y.Name], most[y.Name] = min(lo, y.Size), min(hi, y.Size)
	}
	return least, most
}

// 8.2
func TestContents(t *testing.T) {
	// of a there is less than is asked for
	little := graph{[]api.Lot{lot("a", 0, 10), lot("b", 1, 100), lot("c", 2, 100)}, []api.Use{use("a", "b", 50, 60), use("b", "c", 95, 99)}}
	// a comes into z on two ways, on both together with more than goes into it
	twoWays := graph{
		[]api.Lot{lot("z", 2, 60), lot("a", 0, 100), lot("b", 1, 50), lot("c", 1, 50)},
		[]api.Use{use("a", "b", 45, 50), use("a", "c", 40, 50), use("b", "z", 20, 40), use("c", "z", 30, 50)},
	}
	for _, c := range []struct {
		g           graph
		x, y        string
		least, most int
	}{
		{cannery(), "fish", "batch", 90, 100},
		{cannery(), "fish", "cans", 20, 60},
		{cannery(), "brine", "batch", 20, 30},
		{cannery(), "brine", "cans", 0, 30},
		{cannery(), "batch", "cans", 50, 60},
		{cannery(), "fish", "fish", 100, 100},
		{cannery(), "cans", "cans", 60, 60},
		{cannery(), "fish", "brine", 0, 0},
		{cannery(), "batch", "fish", 0, 0},
		{cannery(), "cans", "fish", 0, 0},
		{little, "a", "b", 10, 10},
		{little, "a", "c", 5, 10},
		{little, "b", "c", 95, 99},
		{twoWays, "a", "b", 45, 50},
		{twoWays, "a", "c", 40, 50},
		{twoWays, "a", "z", 15 + 20, 60},
		{twoWays, "b", "z", 20, 40},
		{twoWays, "c", "z", 30, 50},
		{twoWays, "z", "a", 0, 0},
		{diamond(), "a", "z", 0, 100},
		{diamond(), "alone", "z", 0, 0},
	} {
		if n, e := trace.Least(c.g.l, c.g.u, c.x, c.y); n != c.least || e != api.OK {
			t.Errorf("Least(%s, %s) = %d, %d, not %d", c.x, c.y, n, e, c.least)
		}
		if n, e := trace.Most(c.g.l, c.g.u, c.x, c.y); n != c.most || e != api.OK {
			t.Errorf("Most(%s, %s) = %d, %d, not %d", c.x, c.y, n, e, c.most)
		}
	}
}

// 8.2: the least content at each Least of a use: nothing as long as what is not fish may have gone first.
func TestLeastByUse(t *testing.T) {
	for least := range 61 {
		g := cannery()
		g.u[2].Least = least
		want := max(0, least-30)
		if n, e := trace.Least(g.l, g.u, "fish", "cans"); n != want || e != api.OK {
			t.Errorf("Least = %d, %d, not %d", n, e, want)
		}
		surely, e := trace.Surely(g.l, g.u, "fish")
		if is := slices.Contains(surely, "cans"); is != (want > 0) || e != api.OK {
			t.Errorf("Surely = %v, %d with %d", surely, e, least)
		}
	}
}

// 8.2
func TestSurely(t *testing.T) {
	for name, want := range map[string][]string{
		"fish":  {"fish", "batch", "cans"},
		"brine": {"brine", "batch"},
		"batch": {"batch", "cans"},
		"cans":  {"cans"},
	} {
		if l, e := trace.Surely(cannery().l, cannery().u, name); !slices.Equal(l, want) || e != api.OK {
			t.Errorf("Surely(%s) = %v, %d", name, l, e)
		}
	}
	if l, e := trace.Surely(diamond().l, diamond().u, "a"); !slices.Equal(l, []string{"a"}) || e != api.OK {
		t.Errorf("Surely(a) = %v, %d", l, e)
	}
}

// 8.2, P8.3 (Bounds)
func TestContentsByTheirSentences(t *testing.T) {
	between, sure := 0, 0
	for seed := range 500 {
		g := some(1+seed%12, seed)
		for _, x := range g.names() {
			least, most := g.contents(x)
			surely, e := trace.Surely(g.l, g.u, x)
			if want := g.that(func(y string) bool { return least[y] > 0 }); !slices.Equal(surely, want) || e != api.OK {
				t.Errorf("Surely(%s) of %v = %v, %d, not %v", x, g, surely, e, want)
			}
			forward, _ := trace.Forward(g.l, g.u, x)
			sure += len(surely) - 1
			for _, y := range g.l {
				lo, e := trace.Least(g.l, g.u, x, y.Name)
				if lo != least[y.Name] || e != api.OK {
					t.Errorf("Least(%s, %s) of %v = %d, %d, not %d", x, y.Name, g, lo, e, least[y.Name])
				}
				hi, e := trace.Most(g.l, g.u, x, y.Name)
				if hi != most[y.Name] || e != api.OK {
					t.Errorf("Most(%s, %s) of %v = %d, %d, not %d", x, y.Name, g, hi, e, most[y.Name])
				}
				may := slices.Contains(forward, y.Name)
				if lo < 0 || lo > hi || hi > y.Size || hi > 0 != may || slices.Contains(surely, y.Name) && !may {
					t.Errorf("%s is in %s of %v from %d to %d", x, y.Name, g, lo, hi)
				}
				if 0 < lo && lo < hi {
					between++
				}
			}
		}
	}
	if between < 1000 || sure < 1000 {
		t.Errorf("%d and %d", between, sure)
	}
}

// P8.3: with more uses the most content never falls.
func TestMoreUses(t *testing.T) {
	more := 0
	for seed := range 200 {
		g := some(4+seed%6, seed)
		for n := range g.u {
			for _, x := range g.names() {
				for _, y := range g.names() {
					before, _ := trace.Most(g.l, g.u[:n], x, y)
					after, e := trace.Most(g.l, g.u[:n+1], x, y)
					if after < before || e != api.OK {
						t.Errorf("Most(%s, %s) of %v falls from %d to %d", x, y, g, before, after)
					}
					more += min(1, after-before)
				}
			}
		}
	}
	if more < 1000 {
		t.Errorf("%d are more", more)
	}
}

// 8.2, P8.1: very many chains and great numbers.
func TestContentsOfManyChains(t *testing.T) {
	for _, ahead := range []int{2, 3, 5} {
		g := ladder(200, ahead)
		least, most := g.contents("lot0")
		for _, y := range []string{"lot1", "lot2", "lot7", "lot100", "lot199"} {
			lo, _ := trace.Least(g.l, g.u, "lot0", y)
			hi, e := trace.Most(g.l, g.u, "lot0", y)
			if lo != least[y] || hi != most[y] || hi != 1000 || e != api.OK {
				t.Errorf("lot0 is in %s from %d to %d, not from %d to %d", y, lo, hi, least[y], most[y])
			}
		}
	}
	g := graph{l: []api.Lot{lot("a", 0, 1000000000)}}
	for _, x := range named(198) {
		x.At, x.Size = 1, 1000000000
		g.l = append(g.l, x)
		g.u = append(g.u, use("a", x.Name, 1000000000, 1000000000))
	}
	g.l = append(g.l, lot("z", 2, 1000000000))
	for _, x := range named(198) {
		g.u = append(g.u, use(x.Name, "z", 5050505, 1000000000))
	}
	lo, _ := trace.Least(g.l, g.u, "a", "z")
	hi, e := trace.Most(g.l, g.u, "a", "z")
	if lo != 198*5050505 || hi != 1000000000 || e != api.OK {
		t.Errorf("a is in z from %d to %d, %d", lo, hi, e)
	}
}

// 8.2
func TestLeft(t *testing.T) {
	l := []api.Lot{lot("a", 0, 100), lot("b", 1, 100), lot("c", 1, 100), lot("d", 2, 100)}
	for _, c := range []struct {
		u           []api.Use
		least, most int
	}{
		{nil, 100, 100},
		{[]api.Use{use("a", "b", 30, 40)}, 60, 70},
		{[]api.Use{use("a", "b", 0, 100)}, 0, 100},
		{[]api.Use{use("a", "b", 100, 100)}, 0, 0},
		{[]api.Use{use("a", "b", 30, 60), use("a", "c", 20, 40)}, 0, 50},
		{[]api.Use{use("a", "b", 30, 60), use("a", "c", 20, 39)}, 1, 50},
		{[]api.Use{use("a", "b", 30, 60), use("a", "c", 20, 50)}, 0, 50},
		{[]api.Use{use("a", "b", 60, 60), use("a", "c", 40, 50)}, 0, 0},
		{[]api.Use{use("a", "b", 100, 100), use("a", "c", 100, 100), use("a", "d", 10, 20)}, 0, 0},
		{[]api.Use{use("a", "b", 99, 100), use("b", "d", 50, 60), use("c", "d", 7, 8)}, 0, 1},
		{[]api.Use{use("b", "d", 50, 60), use("c", "d", 7, 8)}, 100, 100},
	} {
		if least, most, e := trace.Left(l, c.u, "a"); least != c.least || most != c.most || e != api.OK {
			t.Errorf("Left with %v = %d, %d, %d", c.u, least, most, e)
		}
	}
	g := cannery()
	for name, want := range map[string][2]int{"fish": {0, 10}, "brine": {20, 30}, "batch": {60, 70}, "cans": {60, 60}} {
		if least, most, e := trace.Left(g.l, g.u, name); least != want[0] || most != want[1] || e != api.OK {
			t.Errorf("Left of %s = %d, %d, %d", name, least, most, e)
		}
	}
}
