package trace_test

import (
	"slices"
	"testing"

	"cannery/api"
	"cannery/trace"
)

// 8.5
func TestJoined(t *testing.T) {
	first := graph{[]api.Lot{lot("c", 3, 30), lot("a", 1, 10)}, []api.Use{use("a", "c", 5, 6)}}
	second := graph{
		[]api.Lot{lot("b", 2, 20), lot("c", 3, 30), lot("d", 0, 40), lot("a", 1, 10)},
		[]api.Use{use("d", "c", 1, 2), use("a", "c", 5, 6), use("a", "b", 3, 4)},
	}
	for _, c := range []struct{ a, b, want graph }{
		{graph{}, graph{}, graph{}},
		{first, graph{}, first},
		{graph{}, first, first},
		{first, second, graph{
			[]api.Lot{lot("c", 3, 30), lot("a", 1, 10), lot("b", 2, 20), lot("d", 0, 40)},
			[]api.Use{use("a", "c", 5, 6), use("d", "c", 1, 2), use("a", "b", 3, 4)},
		}},
		{second, first, second},
		{graph{l: first.l}, second, graph{[]api.Lot{lot("c", 3, 30), lot("a", 1, 10), lot("b", 2, 20), lot("d", 0, 40)}, second.u}},
		// the leasts are as much as goes into a lot
		{
			graph{[]api.Lot{lot("a", 0, 9), lot("z", 1, 9)}, []api.Use{use("a", "z", 4, 9)}},
			graph{[]api.Lot{lot("b", 0, 9), lot("z", 1, 9)}, []api.Use{use("b", "z", 5, 9)}},
			graph{[]api.Lot{lot("a", 0, 9), lot("z", 1, 9), lot("b", 0, 9)}, []api.Use{use("a", "z", 4, 9), use("b", "z", 5, 9)}},
		},
		{graph{l: named(150)}, graph{l: named(200)}, graph{l: named(200)}},
		{graph{full().l, full().u[500:]}, graph{full().l, full().u[:700]}, graph{full().l, slices.Concat(full().u[500:], full().u[:500])}},
	} {
		l, u, e := trace.Joined(c.a.l, c.a.u, c.b.l, c.b.u)
		if !slices.Equal(l, c.want.l) || !slices.Equal(u, c.want.u) || e != api.OK {
			t.Errorf("Joined(%v, %v) = %v, %v, %d", c.a, c.b, l, u, e)
		}
	}
}

// 8.5, R2
func TestJoinedErrors(t *testing.T) {
	g := graph{
		[]api.Lot{lot("a", 1, 10), lot("b", 2, 20), lot("c", 3, 30)},
		[]api.Use{use("a", "b", 5, 6), use("a", "c", 10, 20)},
	}
	for _, c := range []struct {
		other graph
		want  api.Errno
	}{
		{graph{l: []api.Lot{lot("a", 0, 10)}}, api.ErrState},
		{graph{l: []api.Lot{lot("a", 1, 11)}}, api.ErrState},
		{graph{l: []api.Lot{lot("x", 1, 10), lot("b", 1, 20)}}, api.ErrState},
		{graph{g.l, []api.Use{use("a", "b", 4, 6)}}, api.ErrState},
		{graph{g.l, []api.Use{use("a", "b", 5, 7)}}, api.ErrState},
		{graph{g.l, []api.Use{use("b", "c", 5, 7), use("a", "c", 0, 1)}}, api.ErrState},
		// the whole
		{graph{g.l, []api.Use{use("b", "c", 21, 21)}}, api.ErrRange},
		{graph{append(named(197), lot("x", 0, 1)), nil}, api.ErrLimit},
		{graph{l: named(200)}, api.ErrLimit},
		{graph{append(named(3), lot("c", 3, 30)), []api.Use{use("lot0", "c", 21, 30)}}, api.ErrRange},
		// ErrState before those of the whole
		{graph{append(named(199), lot("a", 0, 10)), nil}, api.ErrState},
		{graph{append(named(3), lot("c", 3, 30), lot("a", 1, 11)), []api.Use{use("lot0", "c", 21, 30)}}, api.ErrState},
		{graph{g.l, []api.Use{use("b", "c", 29, 29), use("a", "c", 0, 1)}}, api.ErrState},
	} {
		for _, twice := range [][2]graph{{g, c.other}, {c.other, g}} {
			l, u, e := trace.Joined(twice[0].l, twice[0].u, twice[1].l, twice[1].u)
			if len(l) != 0 || len(u) != 0 || e != c.want {
				t.Errorf("Joined(%v, %v) = %v, %v, %d, not %d", twice[0], twice[1], l, u, e, c.want)
			}
		}
	}
	if l, u, e := trace.Joined(full().l, full().u, full().l, []api.Use{use("lot0", "lot199", 0, 1)}); len(l) != 0 || len(u) != 0 || e != api.ErrLimit {
		t.Errorf("1,001 uses: %v, %v, %d", l, u, e)
	}
}

// 8.5: both graphs' errors come first, the first one's before the second's.
func TestJoinedOfWrongGraphs(t *testing.T) {
	bad := badGraphs()
	for i, first := range bad {
		for _, g := range []graph{{}, cannery(), full()} {
			if l, u, e := trace.Joined(first.l, first.u, g.l, g.u); len(l) != 0 || len(u) != 0 || e != first.want {
				t.Errorf("Joined of %v = %v, %v, %d", first, l, u, e)
			}
			if l, u, e := trace.Joined(g.l, g.u, first.l, first.u); len(l) != 0 || len(u) != 0 || e != first.want {
				t.Errorf("Joined with %v = %v, %v, %d", first, l, u, e)
			}
		}
		second := bad[(i*7+3)%len(bad)]
		if l, u, e := trace.Joined(first.l, first.u, second.l, second.u); len(l) != 0 || len(u) != 0 || e != first.want {
			t.Errorf("Joined of %v and %v = %v, %v, %d", first, second, l, u, e)
		}
	}
}

// P8.6
func TestJoinedWithItself(t *testing.T) {
	for _, g := range goodGraphs() {
		if l, u, e := trace.Joined(g.l, g.u, g.l, g.u); !slices.Equal(l, g.l) || !slices.Equal(u, g.u) || e != api.OK {
			t.Errorf("Joined(%v) = %v, %v, %d", g, l, u, e)
		}
	}
}

// 8.5: parts of a graph make it again, whatever they have in common.
func TestJoinedOfParts(t *testing.T) {
	for seed := range 200 {
		g := some(2+seed%12, seed)
		n := len(g.l) / 2
		first := graph{l: g.l[:n]}
		var rest []api.Use
		for _, x := range g.u {
			if trace.Lot(first.l, x.From) >= 0 && trace.Lot(first.l, x.To) >= 0 {
				first.u = append(first.u, x)
			} else {
				rest = append(rest, x)
			}
		}
		l, u, e := trace.Joined(first.l, first.u, g.l, g.u)
		if !slices.Equal(l, g.l) || !slices.Equal(u, append(first.u, rest...)) || e != api.OK {
			t.Errorf("Joined(%v, %v) = %v, %v, %d", first, g, l, u, e)
		}
	}
}
