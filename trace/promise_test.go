package trace_test

import (
	"fmt"
	"math"
	"slices"
	"strings"
	"testing"

	"cannery/api"
	"cannery/trace"
)

// answer is what a function returned: its results, all their zero values if they are nothing, and its error.
type answer struct {
	function, results string
	zero              bool
	e                 api.Errno
}

func answerOf(function string, zero bool, e api.Errno, results ...any) answer {
	return answer{function, fmt.Sprintln(results...), zero, e}
}

// ofNone calls the functions that take a graph alone.
func ofNone(g graph) []answer {
	sources, e := trace.Sources(g.l, g.u)
	ends, e2 := trace.Ends(g.l, g.u)
	return []answer{answerOf("Sources", len(sources) == 0, e, sources), answerOf("Ends", len(ends) == 0, e2, ends)}
}

// ofName calls the functions that take a name.
func ofName(g graph, name string) []answer {
	forward, e := trace.Forward(g.l, g.u, name)
	backward, e2 := trace.Backward(g.l, g.u, name)
	surely, e3 := trace.Surely(g.l, g.u, name)
	least, most, e4 := trace.Left(g.l, g.u, name)
	return []answer{
		answerOf("Forward", len(forward) == 0, e, forward),
		answerOf("Backward", len(backward) == 0, e2, backward),
		answerOf("Surely", len(surely) == 0, e3, surely),
		answerOf("Left", least == 0 && most == 0, e4, least, most),
	}
}

// ofNames calls the functions that take two names.
func ofNames(g graph, x, y string) []answer {
	path, e := trace.Path(g.l, g.u, x, y)
	least, e2 := trace.Least(g.l, g.u, x, y)
	most, e3 := trace.Most(g.l, g.u, x, y)
	return []answer{
		answerOf("Path", len(path) == 0, e, path),
		answerOf("Least", least == 0, e2, least),
		answerOf("Most", most == 0, e3, most),
	}
}

// ofList calls the functions that take a list of names.
func ofList(g graph, list []string) []answer {
	common, e := trace.Common(g.l, g.u, list)
	fewest, e2 := trace.Fewest(g.l, g.u, list)
	apart, e3 := trace.Apart(g.l, g.u, list)
	hit, paths, e4 := trace.Recall(g.l, g.u, list)
	return []answer{
		answerOf("Common", len(common) == 0, e, common),
		answerOf("Fewest", len(fewest) == 0, e2, fewest),
		answerOf("Apart", !apart, e3, apart),
		answerOf("Recall", len(hit) == 0 && len(paths) == 0, e4, hit, paths),
	}
}

// ofLists calls the function that takes two lists of names.
func ofLists(g graph, causes, complaints []string) []answer {
	ok, e := trace.Explains(g.l, g.u, causes, complaints)
	return []answer{answerOf("Explains", !ok, e, ok)}
}

// answers calls each function.
func answers(g, other graph, x, y string, list, list2 []string) []answer {
	l, u, e := trace.Joined(g.l, g.u, other.l, other.u)
	m, v, line, e2 := trace.Parse(g.written())
	hit, paths, _ := trace.Recall(other.l, other.u, list)
	return slices.Concat(ofNone(g), ofName(g, x), ofNames(g, x, y), ofList(g, list), ofLists(g, list, list2), []answer{
		answerOf("Check", true, trace.Check(g.l, g.u)),
		answerOf("Lot", true, api.OK, trace.Lot(g.l, x)),
		answerOf("Format", true, api.OK, trace.Format(g.l, g.u)),
		answerOf("Witnessed", true, api.OK, trace.Witnessed(g.l, g.u, list2, hit, paths), trace.Witnessed(g.l, g.u, list, list2, [][]string{list, nil, list2, {x, y}, {}})),
		answerOf("Joined", len(l) == 0 && len(u) == 0, e, l, u),
		answerOf("Parse", len(m) == 0 && len(v) == 0 && (line == 0 || e2 == api.ErrSyntax), e2, m, v, line),
	})
}

// expect tells which of some answers do not have an error, or have results with it.
func expect(t *testing.T, list []answer, want api.Errno, of string) {
	t.Helper()
	for _, a := range list {
		if a.e != want || want != api.OK && !a.zero {
			t.Errorf("%s of %s = %s with the error %d, not %d", a.function, of, a.results, a.e, want)
		}
	}
}

// R2, R3: Check's errors come first.
func TestErrorsOfGraphs(t *testing.T) {
	for _, g := range badGraphs() {
		for _, x := range []string{"a", "lot0", "x", ""} {
			for _, list := range [][]string{nil, {"a", "b"}, {"lot0"}, {"x"}, {x, x}, graph{l: named(65)}.names(), graph{l: named(9)}.names()} {
				all := slices.Concat(ofNone(g.graph), ofName(g.graph, x), ofNames(g.graph, x, "b"), ofNames(g.graph, "b", x), ofList(g.graph, list), ofLists(g.graph, list, nil), ofLists(g.graph, nil, list))
				expect(t, all, g.want, g.String()+" and "+fmt.Sprint(x, list))
			}
		}
	}
}

// R3: a name that is no lot.
func TestErrorsOfNames(t *testing.T) {
	for _, g := range []graph{{}, cannery(), full()} {
		for _, x := range []string{"", "x", "Fish", "fis", "fishes", "a name of more than sixteen signs", "lot200", "fish\n"} {
			expect(t, ofName(g, x), api.ErrName, x)
			expect(t, ofNames(g, x, x), api.ErrName, x)
			for _, name := range g.names()[:min(3, len(g.l))] {
				expect(t, ofNames(g, x, name), api.ErrName, x)
				expect(t, ofNames(g, name, x), api.ErrName, x)
			}
		}
		for _, x := range g.names() {
			expect(t, ofName(g, x), api.OK, x)
			expect(t, ofNames(g, x, x), api.OK, x)
		}
	}
}

// R2, R3: ErrName comes before ErrDuplicate, and this before ErrLimit, of any list.
func TestErrorsOfLists(t *testing.T) {
	g := graph{l: named(70)}
	names := g.names()
	with := func(list []string, more ...string) []string { return slices.Concat(list, more) }
	for _, c := range []struct {
		list []string
		want api.Errno
	}{
		{names[:65], api.ErrLimit},
		{names, api.ErrLimit},
		{[]string{"lot3", "lot3"}, api.ErrDuplicate},
		{with(names[:8], "lot0"), api.ErrDuplicate},
		{with(names[:64], "lot63"), api.ErrDuplicate},
		{with(names[:65], "lot3"), api.ErrDuplicate},
		{with(names, names...), api.ErrDuplicate},
		{[]string{"x"}, api.ErrName},
		{[]string{""}, api.ErrName},
		{[]string{"x", "x"}, api.ErrName},
		{[]string{"lot3", "lot3", "x"}, api.ErrName},
		{[]string{"x", "lot3", "lot3"}, api.ErrName},
		{with(names[:65], "x"), api.ErrName},
		{with(names, "lot3", "x"), api.ErrName},
	} {
		expect(t, ofList(g, c.list), c.want, fmt.Sprint(c.list))
		expect(t, ofLists(g, c.list, nil), c.want, fmt.Sprint(c.list))
		expect(t, ofLists(g, nil, c.list), c.want, fmt.Sprint(c.list))
		expect(t, ofLists(g, c.list, c.list), c.want, fmt.Sprint(c.list))
	}
	for _, c := range []struct {
		list, list2 []string
		want        api.Errno
	}{
		{names[:64], names[6:], api.OK}, // not of all lists together
		{[]string{"lot3"}, []string{"lot3"}, api.OK},
		{names[:65], []string{"lot3", "lot3"}, api.ErrDuplicate},
		{names[:65], []string{"x"}, api.ErrName},
		{[]string{"lot3", "lot3"}, []string{"x"}, api.ErrName},
	} {
		for _, twice := range [][2][]string{{c.list, c.list2}, {c.list2, c.list}} {
			if ok, e := trace.Explains(g.l, g.u, twice[0], twice[1]); e != c.want || e != api.OK && ok {
				t.Errorf("Explains(%v) = %t, %d, not %d", twice, ok, e, c.want)
			}
		}
	}
}

// 8.3: Fewest takes up to 8 complaints, the others up to 64 names.
func TestLimitsOfLists(t *testing.T) {
	g := graph{l: named(70)}
	for n := range 71 {
		want := api.OK
		if n > 64 {
			want = api.ErrLimit
		}
		list := g.names()[:n]
		expect(t, ofLists(g, list, list), want, fmt.Sprint(n, " names"))
		for _, a := range ofList(g, list) {
			e := want
			if a.function == "Fewest" && n > 8 {
				e = api.ErrLimit
			}
			expect(t, []answer{a}, e, fmt.Sprint(n, " names"))
		}
	}
}

// P8.1, R1, R7: every call ends, none panics, and a second call answers the same, whatever the arguments.
func TestExtremes(t *testing.T) {
	var graphs []graph
	for _, g := range badGraphs() {
		graphs = append(graphs, g.graph)
	}
	graphs = append(graphs, graph{make([]api.Lot, 5000), make([]api.Use, 5000)}, graph{u: make([]api.Use, 3)})
	graphs = append(graphs, graph{[]api.Lot{lot("a", math.MinInt, math.MaxInt), lot("b", math.MaxInt, math.MinInt)}, []api.Use{use("a", "b", math.MinInt, math.MaxInt), use("b", "a", math.MaxInt, math.MinInt)}})
	good := append(goodGraphs(), kitchen(), diamond(), ladder(200, 4), longest(700))
	for i := range 600 {
		at := numbers(8, i, 1<<16)
		g, other := graphs[at[0]%len(graphs)], good[at[1]%len(good)]
		if i%3 > 0 {
			g, other = other, good[at[2]%len(good)]
		}
		names := append(g.names(), "x", "", strings.Repeat("a", 1<<16))
		if i%2 > 0 && len(g.l) > 0 {
			names = g.names()
		}
		names = names[:min(len(names), 300)]
		x, y := names[at[3]%len(names)], names[at[4]%len(names)]
		list, list2 := chosen(names, at[5], 8), chosen(names, at[6], 80)
		first, second := answers(g, other, x, y, list, list2), answers(g, other, x, y, list, list2)
		if !slices.Equal(first, second) {
			t.Errorf("two answers: %v, %v", first, second)
		}
		for _, a := range first {
			if a.e != api.OK && !a.zero {
				t.Errorf("%s of %v has results with the error %d: %s", a.function, g, a.e, a.results)
			}
		}
	}
}

// R4: a nil list and an empty one are the same.
func TestEmptyLists(t *testing.T) {
	empty, none := graph{[]api.Lot{}, []api.Use{}}, []string{}
	if first, second := answers(graph{}, graph{}, "a", "b", nil, nil), answers(empty, empty, "a", "b", none, none); !slices.Equal(first, second) {
		t.Errorf("two answers: %v, %v", first, second)
	}
	g := cannery()
	if first, second := answers(g, graph{}, "fish", "cans", nil, nil), answers(g, empty, "fish", "cans", none, none); !slices.Equal(first, second) {
		t.Errorf("two answers: %v, %v", first, second)
	}
	if !trace.Witnessed(g.l, g.u, []string{"cans"}, []string{"cans"}, [][]string{{"cans"}}) || trace.Witnessed(g.l, g.u, []string{"cans"}, []string{"cans"}, [][]string{{}}) {
		t.Error("an empty path is one")
	}
}

// results is what all functions return that is in memory.
type results struct {
	lots  [][]api.Lot
	uses  [][]api.Use
	names [][]string
}

func resultsOf(g, other graph, list, list2 []string) results {
	forward, _ := trace.Forward(g.l, g.u, "water")
	backward, _ := trace.Backward(g.l, g.u, "soup")
	path, _ := trace.Path(g.l, g.u, "peas", "soup")
	alone, _ := trace.Path(g.l, g.u, "peas", "peas")
	surely, _ := trace.Surely(g.l, g.u, "water")
	sources, _ := trace.Sources(g.l, g.u)
	ends, _ := trace.Ends(g.l, g.u)
	common, _ := trace.Common(g.l, g.u, list[:1])
	all, _ := trace.Common(g.l, g.u, nil)
	fewest, _ := trace.Fewest(g.l, g.u, list)
	hit, paths, _ := trace.Recall(g.l, g.u, list2)
	lots, uses, _ := trace.Joined(g.l, g.u, other.l, other.u)
	lots2, uses2, _ := trace.Joined(g.l, g.u, nil, nil)
	lots3, uses3, _ := trace.Joined(nil, nil, g.l, g.u)
	lots4, uses4, _, _ := trace.Parse(text)
	trace.Check(g.l, g.u)
	trace.Lot(g.l, "soup")
	trace.Least(g.l, g.u, "water", "soup")
	trace.Most(g.l, g.u, "water", "soup")
	trace.Explains(g.l, g.u, list2, list)
	trace.Apart(g.l, g.u, list)
	trace.Witnessed(g.l, g.u, list2, hit, paths)
	trace.Left(g.l, g.u, "water")
	trace.Format(g.l, g.u)
	return results{
		[][]api.Lot{lots, lots2, lots3, lots4},
		[][]api.Use{uses, uses2, uses3, uses4},
		append([][]string{forward, backward, path, alone, surely, sources, ends, common, all, fewest, hit}, paths...),
	}
}

// spoil changes all memory of some lists, which must not be empty.
func spoil[T any](t *testing.T, lists [][]T) {
	t.Helper()
	for i, l := range lists {
		if len(l) == 0 {
			t.Errorf("the result %d has nothing that could be shared", i)
		}
		clear(l[:cap(l)])
	}
}

// P8.1, R4: arguments are read only, also beyond their length, and no memory is shared.
func TestNothingIsShared(t *testing.T) {
	g, other := kitchen(), cannery()
	l, u := append(g.l, badLots()[0].l...), append(g.u, use("x", "y", 7, 8), use("mix", "mash", 1, 2))
	m, v := append(other.l, lot("A", -1, -1)), append(other.u, use("p", "q", 3, 4))
	list, list2 := []string{"soup", "stew", "mash", "x", "soup"}, []string{"corn", "salt", "y"}
	kept := fmt.Sprint(l, u, m, v, list, list2)
	call := func() results {
		return resultsOf(graph{l[:len(g.l)], u[:len(g.u)]}, graph{m[:len(other.l)], v[:len(other.u)]}, list[:3], list2[:2])
	}
	r := call()
	before := fmt.Sprint(r)
	// One list after another: what is not spoiled yet must be as it was.
	for i, names := range r.names {
		rest := fmt.Sprint(r.names[i+1:])
		clear(names[:cap(names)])
		if fmt.Sprint(r.names[i+1:]) != rest {
			t.Errorf("the list %d of names shares memory with another", i)
		}
	}
	spoil(t, r.names)
	spoil(t, r.lots)
	spoil(t, r.uses)
	if fmt.Sprint(l, u, m, v, list, list2) != kept {
		t.Error("the arguments have changed")
	}
	if again := fmt.Sprint(call()); again != before {
		t.Errorf("results that were changed come back: %s, not %s", again, before)
	}
}
