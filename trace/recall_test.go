package trace_test

import (
	"slices"
	"testing"

	"cannery/api"
	"cannery/trace"
)

// leads follows the sentence about paths.
func (g graph) leads(path, bad []string, to string) bool {
	for i := 1; i < len(path); i++ {
		if !slices.ContainsFunc(g.u, func(x api.Use) bool { return x.From == path[i-1] && x.To == path[i] }) {
			return false
		}
	}
	return len(path) > 0 && slices.Contains(bad, path[0]) && path[len(path)-1] == to
}

// 8.4
func TestRecall(t *testing.T) {
	g := kitchen()
	for _, c := range []struct{ bad, want []string }{
		{nil, nil},
		{[]string{"water"}, []string{"water", "soup", "stew"}},
		{[]string{"corn"}, []string{"corn", "mix", "soup", "mash"}},
		{[]string{"mix", "peas"}, []string{"peas", "mix", "soup"}},
		{[]string{"stew", "soup"}, []string{"soup", "stew"}},
		{[]string{"salt", "peas"}, []string{"salt", "peas", "mix", "soup", "stew", "mash"}},
		{[]string{"mash"}, []string{"mash"}},
		{g.names(), g.names()},
	} {
		hit, paths, e := trace.Recall(g.l, g.u, c.bad)
		if !slices.Equal(hit, c.want) || len(paths) != len(hit) || e != api.OK {
			t.Errorf("Recall of %v = %v, %v, %d", c.bad, hit, paths, e)
			continue
		}
		for i, path := range paths {
			if !g.leads(path, c.bad, hit[i]) {
				t.Errorf("Recall of %v has the path %v of %s", c.bad, path, hit[i])
			}
		}
		if !trace.Witnessed(g.l, g.u, c.bad, hit, paths) {
			t.Errorf("Recall of %v is not witnessed: %v, %v", c.bad, hit, paths)
		}
	}
}

// 8.4, P8.4 (Recall), P9
func TestRecallIsWitnessed(t *testing.T) {
	long := 0
	for seed := range 500 {
		g := some(1+seed%14, seed)
		bad := chosen(g.names(), seed, 4)
		hit, paths, e := trace.Recall(g.l, g.u, bad)
		want := g.that(func(y string) bool {
			return slices.ContainsFunc(bad, func(x string) bool { return g.mayBeIn(x, y) })
		})
		if !slices.Equal(hit, want) || len(paths) != len(hit) || e != api.OK || !trace.Witnessed(g.l, g.u, bad, hit, paths) {
			t.Errorf("Recall of %v in %v = %v, %v, %d, not %v", bad, g, hit, paths, e, want)
			continue
		}
		for i, path := range paths {
			if !g.leads(path, bad, hit[i]) {
				t.Errorf("Recall of %v in %v has the path %v of %s", bad, g, path, hit[i])
			}
			long += max(0, len(path)-2)
		}
	}
	if long < 100 {
		t.Errorf("%d lots are inside of paths", long)
	}
}

// 8.4: as many lots as there may be, more than a list of bad ones may have.
func TestRecallOfAll(t *testing.T) {
	for _, g := range []graph{ladder(200, 1), ladder(200, 5), full()} {
		hit, paths, e := trace.Recall(g.l, g.u, []string{"lot0"})
		if len(hit) < 100 || e != api.OK || !trace.Witnessed(g.l, g.u, []string{"lot0"}, hit, paths) {
			t.Errorf("Recall = %v, %v, %d", hit, paths, e)
		}
		bad := g.names()[:64]
		hit, paths, e = trace.Recall(g.l, g.u, bad)
		if len(hit) < 100 || e != api.OK || !trace.Witnessed(g.l, g.u, bad, hit, paths) {
			t.Errorf("Recall of 64 = %v, %v, %d", hit, paths, e)
		}
	}
}

// 8.4: any chain from a bad lot is one.
func TestWitnessed(t *testing.T) {
	g := diamond()
	bad := []string{"c1", "b2"}
	hit := []string{"z", "c2", "b2", "c1", "d"}
	paths := func() [][]string {
		return [][]string{{"b2", "c2", "d", "z"}, {"b2", "c2"}, {"b2"}, {"b2", "c1"}, {"b2", "c2", "d"}}
	}
	if !trace.Witnessed(g.l, g.u, bad, hit, paths()) {
		t.Error("not witnessed")
	}
	for i, list := range [][][]string{
		{{"c1", "z"}, {"b2", "c1", "z"}, {"b2", "c2", "z"}},
		nil,
		nil,
		{{"c1"}},
		nil,
	} {
		for _, path := range list {
			p := paths()
			p[i] = path
			if !trace.Witnessed(g.l, g.u, bad, hit, p) {
				t.Errorf("%v is not witnessed", p)
			}
		}
	}
	// what is no chain of uses from a bad lot to the one that is hit
	for i, list := range [][][]string{
		{nil, {"z"}, {"b2", "z"}, {"c2", "z"}, {"a", "b2", "c2", "z"}, {"b2", "c2"}, {"c1", "d", "z"}, {"c1", "c1", "z"}, {"c1", "z", "z"}, {"z", "c1"}, {"c1", "x", "z"}, {"x", "z"}, {"c1", ""}, {"b1", "c1", "z"}, {"c1", "z", "c1"}},
		{nil, {"c2"}, {"b2"}, {"a", "b2", "c2"}, {"c1", "c2"}},
		{nil, {"a", "b2"}, {"b2", "b2"}, {"c1"}, {"c1", "b2"}},
		{nil, {"b1", "c1"}, {"b2"}, {"b2", "c2"}, {"c1", "c1"}},
		{nil, {"d"}, {"c2", "d"}, {"b2", "d"}, {"b2", "c2", "z"}, {"b2", "c2"}},
	} {
		for _, path := range list {
			p := paths()
			p[i] = path
			if trace.Witnessed(g.l, g.u, bad, hit, p) {
				t.Errorf("%v is witnessed", p)
			}
		}
	}
}

// 8.4: just the lots that may hold a bad one, in order, each with a path.
func TestWitnessedLots(t *testing.T) {
	g := kitchen()
	bad := []string{"salt"}
	hit, paths := []string{"salt", "stew", "mash"}, [][]string{{"salt"}, {"salt", "stew"}, {"salt", "mash"}}
	if !trace.Witnessed(g.l, g.u, bad, hit, paths) {
		t.Error("not witnessed")
	}
	pick := func(order ...int) (l []string, p [][]string) {
		for _, i := range order {
			l, p = append(l, append(hit, "soup", "x", "")[i]), append(p, append(paths, []string{"salt", "soup"}, []string{"salt", "x"}, []string{"salt", ""})[i])
		}
		return l, p
	}
	for _, order := range [][]int{{}, {0}, {0, 1}, {1, 2}, {0, 2}, {0, 2, 1}, {1, 0, 2}, {2, 1, 0}, {0, 0, 1, 2}, {0, 1, 1}, {0, 1, 2, 2}, {0, 3, 1, 2}, {0, 1, 2, 3}, {0, 1, 2, 4}, {5, 0, 1, 2}, {0, 1, 4}} {
		if l, p := pick(order...); trace.Witnessed(g.l, g.u, bad, l, p) {
			t.Errorf("%v, %v are witnessed", l, p)
		}
	}
	for _, p := range [][][]string{nil, paths[:2], append(slices.Clone(paths), nil), append(slices.Clone(paths), []string{"salt"})} {
		if trace.Witnessed(g.l, g.u, bad, hit, p) {
			t.Errorf("%v are witnessed", p)
		}
	}
	if trace.Witnessed(g.l, g.u, nil, hit, paths) || trace.Witnessed(g.l, g.u, []string{"water"}, hit, paths) || trace.Witnessed(g.l, g.u, []string{"salt", "water"}, hit, paths) {
		t.Error("of other bad lots")
	}
	if !trace.Witnessed(g.l, g.u, nil, nil, nil) || !trace.Witnessed(g.l, g.u, []string{}, []string{}, [][]string{}) || !trace.Witnessed(nil, nil, nil, nil, nil) {
		t.Error("nothing is not witnessed")
	}
	if trace.Witnessed(g.l, g.u, nil, nil, [][]string{{}}) || trace.Witnessed(g.l, g.u, nil, []string{"salt"}, [][]string{{"salt"}}) {
		t.Error("something of nothing")
	}
}

// 8.4: false for wrong arguments.
func TestWitnessedErrors(t *testing.T) {
	for _, g := range badGraphs() {
		if trace.Witnessed(g.l, g.u, nil, nil, nil) {
			t.Errorf("nothing is witnessed in %v", g)
		}
	}
	l := named(65)
	hit := graph{l: l}.names()
	var paths [][]string
	for _, name := range hit {
		paths = append(paths, []string{name})
	}
	if !trace.Witnessed(l[:64], nil, hit[:64], hit[:64], paths[:64]) || trace.Witnessed(l, nil, hit, hit, paths) {
		t.Error("64 and 65 bad lots")
	}
	if trace.Witnessed(l, nil, []string{"lot3", "lot3"}, []string{"lot3"}, [][]string{{"lot3"}}) || trace.Witnessed(l, nil, []string{"lot3", "x"}, []string{"lot3"}, [][]string{{"lot3"}}) || trace.Witnessed(l, nil, []string{"x"}, []string{"x"}, [][]string{{"x"}}) {
		t.Error("wrong bad lots")
	}
}
