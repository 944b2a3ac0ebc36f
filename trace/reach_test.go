package trace_test

import (
	"slices"
	"testing"

	"cannery/api"
	"cannery/trace"
)

// chains returns all chains of lots from one to another, each used in the next.
func (g graph) chains(from, to string) [][]string {
	if from == to {
		return [][]string{{to}}
	}
	var all [][]string
	for _, x := range g.u {
		if x.From == from {
			for _, rest := range g.chains(x.To, to) {
				all = append(all, append([]string{from}, rest...))
			}
		}
	}
	return all
}

// mayBeIn follows the sentence about lots that may be in others.
func (g graph) mayBeIn(x, y string) bool {
	return x == y || slices.ContainsFunc(g.u, func(z api.Use) bool { return z.To == y && g.mayBeIn(x, z.From) })
}

// that returns the names of the lots for which a function is true.
func (g graph) that(is func(string) bool) []string {
	var names []string
	for _, name := range g.names() {
		if is(name) {
			names = append(names, name)
		}
	}
	return names
}

func (g graph) sources() []string {
	return g.that(func(name string) bool {
		return !slices.ContainsFunc(g.u, func(x api.Use) bool { return x.To == name })
	})
}

func (g graph) ends() []string {
	return g.that(func(name string) bool {
		return !slices.ContainsFunc(g.u, func(x api.Use) bool { return x.From == name })
	})
}

// indexes returns where names are among the lots.
func (g graph) indexes(names []string) []int {
	var l []int
	for _, name := range names {
		l = append(l, slices.Index(g.names(), name))
	}
	return l
}

// shortest returns the shortest chain, of several the one whose lots come first.
func (g graph) shortest(from, to string) []string {
	var best []string
	for _, c := range g.chains(from, to) {
		if best == nil || len(c) < len(best) || len(c) == len(best) && slices.Compare(g.indexes(c), g.indexes(best)) < 0 {
			best = c
		}
	}
	return best
}

// diamond has two ways of three steps and a longer one from a to z, and lots in another order than in time.
func diamond() graph {
	return graph{
		[]api.Lot{lot("z", 9, 100), lot("c2", 5, 100), lot("b1", 2, 100), lot("b2", 2, 100), lot("c1", 4, 100), lot("a", 0, 100), lot("d", 6, 100), lot("alone", 3, 100)},
		[]api.Use{
			use("a", "b2", 0, 50), use("a", "b1", 0, 50), use("b1", "c1", 0, 50), use("b2", "c1", 0, 50), use("b2", "c2", 0, 50),
			use("c1", "z", 0, 50), use("c2", "z", 0, 50), use("c2", "d", 0, 50), use("d", "z", 0, 50),
		},
	}
}

// 8.1
func TestForwardAndBackward(t *testing.T) {
	for _, c := range []struct {
		g                 graph
		name              string
		forward, backward []string
	}{
		{cannery(), "fish", []string{"fish", "batch", "cans"}, []string{"fish"}},
		{cannery(), "brine", []string{"brine", "batch", "cans"}, []string{"brine"}},
		{cannery(), "batch", []string{"batch", "cans"}, []string{"fish", "brine", "batch"}},
		{cannery(), "cans", []string{"cans"}, []string{"fish", "brine", "batch", "cans"}},
		{diamond(), "a", []string{"z", "c2", "b1", "b2", "c1", "a", "d"}, []string{"a"}},
		{diamond(), "b1", []string{"z", "b1", "c1"}, []string{"b1", "a"}},
		{diamond(), "c1", []string{"z", "c1"}, []string{"b1", "b2", "c1", "a"}},
		{diamond(), "d", []string{"z", "d"}, []string{"c2", "b2", "a", "d"}},
		{diamond(), "z", []string{"z"}, []string{"z", "c2", "b1", "b2", "c1", "a", "d"}},
		{diamond(), "alone", []string{"alone"}, []string{"alone"}},
	} {
		if l, e := trace.Forward(c.g.l, c.g.u, c.name); !slices.Equal(l, c.forward) || e != api.OK {
			t.Errorf("Forward(%s) = %v, %d", c.name, l, e)
		}
		slices.SortFunc(c.backward, func(a, b string) int { return trace.Lot(c.g.l, a) - trace.Lot(c.g.l, b) })
		if l, e := trace.Backward(c.g.l, c.g.u, c.name); !slices.Equal(l, c.backward) || e != api.OK {
			t.Errorf("Backward(%s) = %v, %d", c.name, l, e)
		}
	}
}

// 8.1: uses with nothing for sure count as others do.
func TestForwardOfNothingForSure(t *testing.T) {
	l := []api.Lot{lot("a", 0, 9), lot("b", 1, 9)}
	if f, e := trace.Forward(l, []api.Use{use("a", "b", 0, 1)}, "a"); !slices.Equal(f, []string{"a", "b"}) || e != api.OK {
		t.Errorf("Forward = %v, %d", f, e)
	}
	if b, e := trace.Backward(l, []api.Use{use("a", "b", 0, 1)}, "b"); !slices.Equal(b, []string{"a", "b"}) || e != api.OK {
		t.Errorf("Backward = %v, %d", b, e)
	}
}

// 8.1, P8.2, P9
func TestOneRelation(t *testing.T) {
	apart, chained := 0, 0
	for seed := range 300 {
		g := some(1+seed%9, seed)
		for _, x := range g.names() {
			forward, e := trace.Forward(g.l, g.u, x)
			if want := g.that(func(y string) bool { return g.mayBeIn(x, y) }); e != api.OK || !slices.Equal(forward, want) {
				t.Errorf("Forward(%s) of %v = %v, %d", x, g, forward, e)
			}
			backward, e := trace.Backward(g.l, g.u, x)
			if want := g.that(func(y string) bool { return g.mayBeIn(y, x) }); e != api.OK || !slices.Equal(backward, want) {
				t.Errorf("Backward(%s) of %v = %v, %d", x, g, backward, e)
			}
			for _, y := range g.names() {
				back, _ := trace.Backward(g.l, g.u, y)
				path, e := trace.Path(g.l, g.u, x, y)
				is := slices.Contains(forward, y)
				if slices.Contains(back, x) != is || (e == api.OK) != is || len(path) > 0 != is || !is && e != api.ErrNone {
					t.Errorf("%s and %s of %v: %v, %v, %v, %d", x, y, g, forward, back, path, e)
				}
				if !is {
					apart++
					continue
				}
				chained++
				further, _ := trace.Forward(g.l, g.u, y)
				for _, z := range further {
					if !slices.Contains(forward, z) {
						t.Errorf("%s is in %s, but %s of %v is not", z, y, x, g)
					}
				}
			}
		}
	}
	if apart < 1000 || chained < 1000 {
		t.Errorf("%d and %d", apart, chained)
	}
}

// 8.1
func TestPath(t *testing.T) {
	for _, c := range []struct {
		g    graph
		want []string
	}{
		{cannery(), []string{"fish", "batch", "cans"}},
		{cannery(), []string{"brine", "batch"}},
		{cannery(), []string{"fish"}},
		{diamond(), []string{"a", "b1", "c1", "z"}}, // not b2 c2, though c2 is before b1
		{diamond(), []string{"b2", "c2", "z"}},      // not c1 z
		{diamond(), []string{"a", "b1", "c1"}},
		{diamond(), []string{"a", "b2", "c2"}},
		{diamond(), []string{"c2", "z"}},
		{diamond(), []string{"a", "b2", "c2", "d"}},
		{diamond(), []string{"z"}},
		{diamond(), []string{"alone"}},
	} {
		if p, e := trace.Path(c.g.l, c.g.u, c.want[0], c.want[len(c.want)-1]); !slices.Equal(p, c.want) || e != api.OK {
			t.Errorf("Path = %v, %d, not %v", p, e, c.want)
		}
	}
	for _, c := range [][2]string{{"z", "a"}, {"b1", "c2"}, {"c1", "d"}, {"a", "alone"}, {"alone", "a"}, {"b1", "b2"}, {"d", "c2"}} {
		if p, e := trace.Path(diamond().l, diamond().u, c[0], c[1]); len(p) != 0 || e != api.ErrNone {
			t.Errorf("Path of %v = %v, %d", c, p, e)
		}
	}
}

// 8.1: against all chains.
func TestPathBySearch(t *testing.T) {
	several := 0
	for seed := range 400 {
		g := some(3+seed%7, seed)
		for _, x := range g.names() {
			for _, y := range g.names() {
				all, want := g.chains(x, y), g.shortest(x, y)
				p, e := trace.Path(g.l, g.u, x, y)
				if !slices.Equal(p, want) || (e == api.OK) != (len(want) > 0) {
					t.Errorf("Path(%s, %s) of %v = %v, %d, not %v", x, y, g, p, e, want)
				}
				if slices.ContainsFunc(all, func(c []string) bool { return len(c) == len(want) && !slices.Equal(c, want) }) {
					several++
				}
			}
		}
	}
	if several < 100 {
		t.Errorf("%d have several shortest paths", several)
	}
}

// 8.1: of very many chains.
func TestLongestPath(t *testing.T) {
	g := ladder(200, 1)
	if p, e := trace.Path(g.l, g.u, "lot0", "lot199"); !slices.Equal(p, g.names()) || e != api.OK {
		t.Errorf("Path = %v, %d", p, e)
	}
	g = ladder(200, 5)
	p, e := trace.Path(g.l, g.u, "lot0", "lot199")
	var want []string // the short step is the first one
	for _, i := range append([]int{0}, steps(4, 199, 5)...) {
		want = append(want, g.l[i].Name)
	}
	if !slices.Equal(p, want) || e != api.OK {
		t.Errorf("Path = %v, %d, not %v", p, e, want)
	}
}

// steps counts from a number to another.
func steps(from, to, by int) []int {
	var l []int
	for n := from; n <= to; n += by {
		l = append(l, n)
	}
	return l
}

// 8.2
func TestSourcesAndEnds(t *testing.T) {
	for _, c := range []struct {
		g             graph
		sources, ends []string
	}{
		{graph{}, nil, nil},
		{cannery(), []string{"fish", "brine"}, []string{"cans"}},
		{diamond(), []string{"a", "alone"}, []string{"z", "alone"}},
		{graph{l: named(3)}, []string{"lot0", "lot1", "lot2"}, []string{"lot0", "lot1", "lot2"}},
		{graph{named(3), []api.Use{use("lot0", "lot2", 0, 1)}}, []string{"lot0", "lot1"}, []string{"lot1", "lot2"}},
	} {
		if l, e := trace.Sources(c.g.l, c.g.u); !slices.Equal(l, c.sources) || e != api.OK {
			t.Errorf("Sources of %v = %v, %d", c.g, l, e)
		}
		if l, e := trace.Ends(c.g.l, c.g.u); !slices.Equal(l, c.ends) || e != api.OK {
			t.Errorf("Ends of %v = %v, %d", c.g, l, e)
		}
	}
	for seed := range 300 {
		g := some(1+seed%15, seed)
		if l, e := trace.Sources(g.l, g.u); !slices.Equal(l, g.sources()) || e != api.OK {
			t.Errorf("Sources of %v = %v, %d", g, l, e)
		}
		if l, e := trace.Ends(g.l, g.u); !slices.Equal(l, g.ends()) || e != api.OK {
			t.Errorf("Ends of %v = %v, %d", g, l, e)
		}
	}
}
