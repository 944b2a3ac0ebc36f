package trace_test

import (
	"fmt"
	"slices"
	"testing"

	"cannery/api"
	"cannery/trace"
)

// explainedBy follows the sentence about lots that explain complaints.
func (g graph) explainedBy(causes, complaints []string) bool {
	for _, c := range complaints {
		if !slices.ContainsFunc(causes, func(x string) bool { return g.mayBeIn(x, c) }) {
			return false
		}
	}
	return true
}

// fewest looks through all lists of sources.
func (g graph) fewest(complaints []string) []string {
	sources := g.sources()
	var best []string
	found := false
	for set := range 1 << len(sources) {
		var list []string
		for i, name := range sources {
			if set>>i&1 == 1 {
				list = append(list, name)
			}
		}
		better := !found || len(list) < len(best) || len(list) == len(best) && slices.Compare(g.indexes(list), g.indexes(best)) < 0
		if better && g.explainedBy(list, complaints) {
			best, found = list, true
		}
	}
	return best
}

// apart follows the sentence about complaints that are apart.
func (g graph) apart(complaints []string) bool {
	for _, source := range g.sources() {
		for i, x := range complaints {
			for _, y := range complaints[:i] {
				if g.mayBeIn(source, x) && g.mayBeIn(source, y) {
					return false
				}
			}
		}
	}
	return true
}

// chosen chooses up to most of some names, in any order.
func chosen(names []string, seed, most int) []string {
	list := slices.Clone(names)
	r := numbers(len(list)+1, seed, 1<<16)
	for i := range list {
		j := i + r[i]%(len(list)-i)
		list[i], list[j] = list[j], list[i]
	}
	return list[:r[len(list)]%(1+min(most, len(list)))]
}

// kitchen has four sources and four complaints.
func kitchen() graph {
	return graph{
		[]api.Lot{lot("water", 0, 99), lot("salt", 0, 99), lot("peas", 1, 99), lot("corn", 1, 99), lot("mix", 2, 99), lot("soup", 3, 99), lot("stew", 3, 99), lot("mash", 3, 99)},
		[]api.Use{
			use("peas", "mix", 0, 9), use("corn", "mix", 0, 9), use("mix", "soup", 0, 9), use("water", "soup", 0, 9),
			use("water", "stew", 0, 9), use("salt", "stew", 0, 9), use("salt", "mash", 0, 9), use("corn", "mash", 0, 9),
		},
	}
}

// 8.3
func TestCommon(t *testing.T) {
	g := kitchen()
	for _, c := range []struct{ complaints, want []string }{
		{nil, g.names()},
		{[]string{"soup"}, []string{"water", "peas", "corn", "mix", "soup"}},
		{[]string{"stew"}, []string{"water", "salt", "stew"}},
		{[]string{"soup", "stew"}, []string{"water"}},
		{[]string{"stew", "soup"}, []string{"water"}},
		{[]string{"stew", "mash"}, []string{"salt"}},
		{[]string{"soup", "mash"}, []string{"corn"}},
		{[]string{"mix", "soup"}, []string{"peas", "corn", "mix"}},
		{[]string{"peas", "soup"}, []string{"peas"}},
		{[]string{"soup", "stew", "mash"}, nil},
		{[]string{"peas", "corn"}, nil},
		{[]string{"peas"}, []string{"peas"}},
	} {
		if l, e := trace.Common(g.l, g.u, c.complaints); !slices.Equal(l, c.want) || e != api.OK {
			t.Errorf("Common of %v = %v, %d", c.complaints, l, e)
		}
	}
}

// 8.3
func TestExplains(t *testing.T) {
	g := kitchen()
	for _, c := range []struct {
		causes, complaints []string
		want               bool
	}{
		{nil, nil, true},
		{[]string{"peas"}, nil, true},
		{nil, []string{"peas"}, false},
		{[]string{"peas"}, []string{"peas"}, true},
		{[]string{"peas"}, []string{"soup", "mix"}, true},
		{[]string{"soup"}, []string{"mix"}, false},
		{[]string{"mix"}, []string{"soup"}, true}, // any lots, not only sources
		{[]string{"mix"}, []string{"soup", "mix", "mash"}, false},
		{[]string{"mix", "mash"}, []string{"soup", "mix", "mash"}, true},
		{[]string{"corn", "water"}, []string{"soup", "stew", "mash"}, true},
		{[]string{"corn", "peas"}, []string{"soup", "stew", "mash"}, false},
		{[]string{"salt"}, []string{"soup", "stew", "mash"}, false},
		{g.names(), g.names(), true},
		{[]string{"water", "salt", "peas", "corn"}, g.names(), true},
		{[]string{"water", "salt", "peas"}, g.names(), false},
	} {
		if ok, e := trace.Explains(g.l, g.u, c.causes, c.complaints); ok != c.want || e != api.OK {
			t.Errorf("Explains(%v, %v) = %t, %d", c.causes, c.complaints, ok, e)
		}
	}
}

// 8.3
func TestFewest(t *testing.T) {
	g := kitchen()
	for _, c := range []struct{ complaints, want []string }{
		{nil, nil},
		{[]string{"soup"}, []string{"water"}},
		{[]string{"mix"}, []string{"peas"}},
		{[]string{"mash"}, []string{"salt"}},
		{[]string{"soup", "stew"}, []string{"water"}},
		{[]string{"mash", "soup"}, []string{"corn"}},
		{[]string{"mash", "soup", "stew"}, []string{"water", "salt"}},
		{[]string{"mash", "mix", "stew"}, []string{"water", "corn"}},
		{[]string{"mix", "stew"}, []string{"water", "peas"}},
		{[]string{"peas"}, []string{"peas"}},
		{[]string{"peas", "mix", "soup"}, []string{"peas"}},
		{[]string{"corn", "peas"}, []string{"peas", "corn"}},
		{[]string{"mix", "soup", "stew", "mash", "water", "salt", "peas", "corn"}, []string{"water", "salt", "peas", "corn"}},
	} {
		if l, e := trace.Fewest(g.l, g.u, c.complaints); !slices.Equal(l, c.want) || e != api.OK {
			t.Errorf("Fewest of %v = %v, %d", c.complaints, l, e)
		}
	}
}

// 8.3: taking the source that explains most is not the way to the fewest.
func TestFewestOfGreedy(t *testing.T) {
	g := graph{l: []api.Lot{lot("most", 0, 99), lot("left", 0, 99), lot("right", 0, 99)}}
	var complaints []string
	for i := range 8 {
		name := fmt.Sprintf("c%d", i)
		complaints = append(complaints, name)
		g.l = append(g.l, lot(name, 1, 99))
		if 0 < i && i < 7 {
			g.u = append(g.u, use("most", name, 0, 1))
		}
		g.u = append(g.u, use([]string{"left", "right"}[i/4], name, 0, 1))
	}
	if l, e := trace.Fewest(g.l, g.u, complaints); !slices.Equal(l, []string{"left", "right"}) || e != api.OK {
		t.Errorf("Fewest = %v, %d", l, e)
	}
	if l, e := trace.Fewest(g.l, g.u, complaints[1:7]); !slices.Equal(l, []string{"most"}) || e != api.OK {
		t.Errorf("Fewest = %v, %d", l, e)
	}
}

// 8.3
func TestApart(t *testing.T) {
	g := kitchen()
	for _, c := range []struct {
		complaints []string
		want       bool
	}{
		{nil, true},
		{[]string{"soup"}, true},
		{[]string{"soup", "stew"}, false},
		{[]string{"mix", "stew"}, true},
		{[]string{"mix", "soup"}, false},
		{[]string{"mix", "mash"}, false},
		{[]string{"peas", "soup"}, false}, // a source explains itself
		{[]string{"peas", "stew"}, true},
		{[]string{"peas", "mash", "water"}, true},
		{[]string{"peas", "mash", "water", "stew"}, false},
		{[]string{"water", "salt", "peas", "corn"}, true},
		{g.names(), false},
	} {
		if ok, e := trace.Apart(g.l, g.u, c.complaints); ok != c.want || e != api.OK {
			t.Errorf("Apart(%v) = %t, %d", c.complaints, ok, e)
		}
	}
}

// 8.3: more complaints than Fewest takes.
func TestManyComplaints(t *testing.T) {
	l := named(70)
	var names []string
	for _, x := range l {
		names = append(names, x.Name)
	}
	u := []api.Use{use("lot3", "lot62", 0, 1), use("lot3", "lot64", 0, 1)}
	for _, c := range []struct {
		complaints []string
		want       bool
	}{{names[:64], false}, {names[:62], true}, {names[4:68], false}, {slices.Concat(names[1:62], names[63:66]), false}, {slices.Concat(names[4:62], names[63:69]), true}} {
		if ok, e := trace.Apart(l, u, c.complaints); ok != c.want || e != api.OK {
			t.Errorf("Apart of %d = %t, %d", len(c.complaints), ok, e)
		}
	}
	if ok, e := trace.Explains(l, u, names[:62], names[1:65]); ok || e != api.OK { // lot63 is missing
		t.Errorf("Explains = %t, %d", ok, e)
	}
	if ok, e := trace.Explains(l, u, append(slices.Clone(names[1:62]), "lot63"), names[1:65]); !ok || e != api.OK {
		t.Errorf("Explains = %t, %d", ok, e)
	}
	if c, e := trace.Common(l, u, names[:64]); len(c) != 0 || e != api.OK {
		t.Errorf("Common = %v, %d", c, e)
	}
}

// 8.3, P8.1: Fewest ends also if there are very many lists of sources, each complaint having sources of its own.
func TestFewestOfManySources(t *testing.T) {
	var g graph
	var complaints, want []string
	for i := range 8 {
		complaint := fmt.Sprintf("c%d", i)
		complaints = append(complaints, complaint)
		for j := range 24 {
			source := fmt.Sprintf("s%d_%d", i, j)
			g.l = append(g.l, lot(source, j, 99))
			g.u = append(g.u, use(source, complaint, 0, 1))
		}
		want = append(want, fmt.Sprintf("s%d_0", i))
		g.l = append(g.l, lot(complaint, 100, 99))
	}
	if l, e := trace.Fewest(g.l, g.u, complaints); !slices.Equal(l, want) || e != api.OK {
		t.Errorf("Fewest = %v, %d", l, e)
	}
	if ok, e := trace.Apart(g.l, g.u, complaints); !ok || e != api.OK {
		t.Errorf("Apart = %t, %d", ok, e)
	}
}

// twoLayers has sources, and complaints that each have some of them.
func twoLayers(sources, complaints, seed int) (graph, []string) {
	var g graph
	r := numbers(sources*complaints+1, seed, 1<<16)
	for i := range sources {
		g.l = append(g.l, lot(fmt.Sprintf("s%d", i), i%3, 99))
	}
	var names []string
	for j := range complaints {
		names = append(names, fmt.Sprintf("c%d", j))
		g.l = append(g.l, lot(names[j], 5, 99))
		for i := range sources {
			if r[i*complaints+j]%7 < 2 {
				g.u = append(g.u, use(g.l[i].Name, names[j], 0, 1))
			}
		}
	}
	// The order of the lots is any.
	for i := range g.l {
		j := i + r[i]%(len(g.l)-i)
		g.l[i], g.l[j] = g.l[j], g.l[i]
	}
	return g, names
}

// 8.3, P8.5 (Fewest): against all lists of sources.
func TestCausesBySearch(t *testing.T) {
	lengths := make(map[int]int)
	try := func(g graph, complaints []string, seed int) {
		common, e := trace.Common(g.l, g.u, complaints)
		if want := g.that(func(x string) bool {
			return !slices.ContainsFunc(complaints, func(y string) bool { return !g.mayBeIn(x, y) })
		}); !slices.Equal(common, want) || e != api.OK {
			t.Errorf("Common(%v) of %v = %v, %d, not %v", complaints, g, common, e, want)
		}
		causes := chosen(g.names(), seed+1, 4)
		if ok, e := trace.Explains(g.l, g.u, causes, complaints); ok != g.explainedBy(causes, complaints) || e != api.OK {
			t.Errorf("Explains(%v, %v) of %v = %t, %d", causes, complaints, g, ok, e)
		}
		apart, e := trace.Apart(g.l, g.u, complaints)
		if apart != g.apart(complaints) || e != api.OK {
			t.Errorf("Apart(%v) of %v = %t, %d", complaints, g, apart, e)
		}
		fewest, e := trace.Fewest(g.l, g.u, complaints)
		if want := g.fewest(complaints); !slices.Equal(fewest, want) || e != api.OK {
			t.Errorf("Fewest(%v) of %v = %v, %d, not %v", complaints, g, fewest, e, want)
		}
		if ok, _ := trace.Explains(g.l, g.u, fewest, complaints); !ok || apart && len(fewest) != len(complaints) {
			t.Errorf("Fewest(%v) of %v = %v, Apart %t", complaints, g, fewest, apart)
		}
		lengths[len(fewest)]++
	}
	for seed := range 400 {
		g := some(1+seed%12, seed)
		try(g, chosen(g.names(), seed, 8), seed)
		g, complaints := twoLayers(1+seed%9, seed%9, seed)
		try(g, complaints, seed)
	}
	for n := range 5 {
		if lengths[n] < 20 {
			t.Errorf("%d lists of fewest causes have the length %d", lengths[n], n)
		}
	}
}
