package trace_test

import (
	"fmt"
	"slices"
	"strings"
	"testing"

	"cannery/api"
	"cannery/trace"
)

const text = "lot fish 0 100\nlot brine 0 50\nlot batch 1 120\nlot cans 2 60\nuse fish batch 90 100\nuse brine batch 20 30\nuse batch cans 50 60\n"

// 8.5
func TestFormat(t *testing.T) {
	if s := trace.Format(cannery().l, cannery().u); s != text {
		t.Errorf("Format = %q", s)
	}
	if trace.Format(nil, nil) != "" || trace.Format([]api.Lot{}, []api.Use{}) != "" {
		t.Error("Format of nothing")
	}
	if s := trace.Format([]api.Lot{lot("lot", 100000000, 1000000000), lot("use", 0, 1)}, []api.Use{use("use", "lot", 0, 1000000000)}); s != "lot lot 100000000 1000000000\nlot use 0 1\nuse use lot 0 1000000000\n" {
		t.Errorf("Format = %q", s)
	}
	for _, g := range badGraphs() {
		if s := trace.Format(g.l, g.u); s != "" {
			t.Errorf("Format of %v = %q", g, s)
		}
	}
}

// longest has long names and numbers, and so many uses.
func longest(uses int) graph {
	g := ladder(200, 6)
	for i := range g.l {
		g.l[i] = lot(fmt.Sprintf("sixteen_signs%03d", i), 99999000+i, 1000000000)
	}
	g.u = g.u[:uses]
	for i, x := range g.u {
		from, to := trace.Lot(named(200), x.From), trace.Lot(named(200), x.To)
		g.u[i] = use(g.l[from].Name, g.l[to].Name, 100000000, 1000000000)
	}
	return g
}

// asLongAs has a text of so many bytes.
func asLongAs(bytes int) graph {
	g := longest(1000)
	more := len(trace.Format(g.l, g.u)) - bytes
	for i := range g.u {
		for ; more > 0 && g.u[i].Least > 1; more-- {
			g.u[i].Least /= 10
		}
	}
	return g
}

// 8.5, P8.6, P11
func TestParseReadsWhatFormatWrites(t *testing.T) {
	for _, g := range append(goodGraphs(), longest(0), longest(800)) {
		l, u, line, e := trace.Parse(trace.Format(g.l, g.u))
		if e != api.OK || line != 0 || !slices.Equal(l, g.l) || !slices.Equal(u, g.u) {
			t.Errorf("Parse(Format(%v)) = %v, %v, %d, %d", g, l, u, line, e)
		}
	}
	for seed := range 200 {
		g := some(1+seed%30, seed)
		if l, u, line, e := trace.Parse(trace.Format(g.l, g.u)); e != api.OK || line != 0 || !slices.Equal(l, g.l) || !slices.Equal(u, g.u) {
			t.Errorf("Parse(Format(%v)) = %v, %v, %d, %d", g, l, u, line, e)
		}
	}
}

// 8.5, P8.6: a graph may have a text that is too long to be read.
func TestLongestTexts(t *testing.T) {
	for _, bytes := range []int{api.MaxText - 1, api.MaxText} {
		g := asLongAs(bytes)
		s := trace.Format(g.l, g.u)
		if l, u, line, e := trace.Parse(s); len(s) != bytes || e != api.OK || line != 0 || !slices.Equal(l, g.l) || !slices.Equal(u, g.u) {
			t.Errorf("Parse of %d bytes: %d, %d", len(s), line, e)
		}
	}
	for _, g := range []graph{asLongAs(api.MaxText + 1), longest(1000)} {
		s := trace.Format(g.l, g.u)
		if len(s) <= api.MaxText || strings.Count(s, "\n") != 1200 {
			t.Errorf("Format makes %d bytes", len(s))
		}
		if l, u, line, e := trace.Parse(s); len(l) != 0 || len(u) != 0 || line != 0 || e != api.ErrLong {
			t.Errorf("Parse of %d bytes: %d, %d", len(s), line, e)
		}
	}
}

// 8.5, P11: nothing else is read.
func TestParseErrors(t *testing.T) {
	for _, c := range []struct {
		s    string
		line int
	}{
		{"\n", 0},
		{" ", 0},
		{" \n", 0},
		{"lot", 0},
		{"lot\n", 0},
		{"use\n", 0},
		{"x", 0},
		{text[:len(text)-1], 6},
		{text[:len(text)-6], 6},
		{text + "\n", 7},
		{"\n" + text, 0},
		{text + "x", 7},
		{text + "x\ny\n", 7},
		{text + "use a b 1 2", 7},
		{strings.Replace(text, "\n", "\n\n", 1), 1},
		{strings.ReplaceAll(text, "\n", "\r\n"), 0},
		{strings.ReplaceAll(text, "\n", " "), 0},
		// in a wrong order
		{text + "lot a 0 1\n", 7},
		{text + text, 7},
		{text + "lot a 0 1", 7},
		{text + "use x y 1 2\nlot a 0 1\nuse z\n", 8},
		{"use a b 0 1\nlot a 0 1\nlot b 1 1\n", 1},
		// other words, and too few or too many
		{"lots a 0 1\n", 0},
		{"Lot a 0 1\n", 0},
		{"used a b 0 1\n", 0},
		{"a 0 1\n", 0},
		{"lot 0 1\n", 0},
		{"lot a 0\n", 0},
		{"lot a 0 1 1\n", 0},
		{"lot a b 0 1\n", 0},
		{"use a 0 1\n", 0},
		{"use a b 0\n", 0},
		{"use a b 0 1 1\n", 0},
		{"use a b c 0 1\n", 0},
		{"lot a 0 1\nuse a b 1\n", 1},
		{"lot a 0 1\nlot\n", 1},
		// other blanks, and names that are empty
		{" lot a 0 1\n", 0},
		{"lot  a 0 1\n", 0},
		{"lot a  0 1\n", 0},
		{"lot a 0  1\n", 0},
		{"lot a 0 1 \n", 0},
		{"lot a 0 1\r\n", 0},
		{"lot a 0 1\t\n", 0},
		{"lot\ta 0 1\n", 0},
		{"lot  0 1\n", 0},
		{"use  b 0 1\n", 0},
		{"use a  0 1\n", 0},
		{"use   0 1\n", 0},
		{"use a b 0 1 \n", 0},
		{"lot a 0 \n", 0},
		{"lot a  1\n", 0},
		// other ways to write numbers
		{"lot a 00 1\n", 0},
		{"lot a 01 1\n", 0},
		{"lot a 0 01\n", 0},
		{"lot a +0 1\n", 0},
		{"lot a -0 1\n", 0},
		{"lot a -1 1\n", 0},
		{"lot a 0 +1\n", 0},
		{"lot a 0 -1\n", 0},
		{"lot a 0 1_0\n", 0},
		{"lot a 0x1 1\n", 0},
		{"lot a 0 1.0\n", 0},
		{"lot a 0 1e3\n", 0},
		{"lot a zero 1\n", 0},
		{"lot a 0 one\n", 0},
		{"lot a \u0661 1\n", 0},
		{"use a b 00 1\n", 0},
		{"use a b 0 01\n", 0},
		{"use a b -1 1\n", 0},
		{"use a b 0 +1\n", 0},
		{"use a b x 1\n", 0},
		{"use a b 0 y\n", 0},
		// above 10^15
		{"lot a 1000000000000001 1\n", 0},
		{"lot a 0 1000000000000001\n", 0},
		{"use a b 1000000000000001 1\n", 0},
		{"use a b 0 1000000000000001\n", 0},
		{"lot a 0 9223372036854775807\n", 0},
		{"lot a 0 18446744073709551617\n", 0},
		{"lot a 0 99999999999999999999999\n", 0},
		// before any error of the graph
		{"lot A 0 1\nlot A 0 1\nlot\n", 2},
		{strings.Repeat("lot a 0 1\n", 300) + "lot", 300},
		{strings.Repeat("use a b 0 1\n", 1300) + "lot a 0 1\n", 1300},
	} {
		if l, u, line, e := trace.Parse(c.s); e != api.ErrSyntax || line != c.line || len(l) != 0 || len(u) != 0 {
			t.Errorf("Parse(%q) = %v, %v, %d, %d", c.s, l, u, line, e)
		}
	}
}

// written writes any graph's text.
func (g graph) written() string {
	s := ""
	for _, x := range g.l {
		s += fmt.Sprintf("lot %s %d %d\n", x.Name, x.At, x.Size)
	}
	for _, x := range g.u {
		s += fmt.Sprintf("use %s %s %d %d\n", x.From, x.To, x.Least, x.Most)
	}
	return s
}

// readable reports whether a graph's text has the form of one.
func (g graph) readable() bool {
	name := func(s string) bool { return s != "" && !strings.ContainsAny(s, " \n") }
	number := func(n int) bool { return 0 <= n && n <= 1000000000000000 }
	return !slices.ContainsFunc(g.l, func(x api.Lot) bool { return !name(x.Name) || !number(x.At) || !number(x.Size) }) &&
		!slices.ContainsFunc(g.u, func(x api.Use) bool {
			return !name(x.From) || !name(x.To) || !number(x.Least) || !number(x.Most)
		})
}

// 8.5: of a graph that is not valid, Check's error.
func TestParseOfWrongGraphs(t *testing.T) {
	list := append(badGraphs(),
		badGraph{graph{l: []api.Lot{lot("a", 1000000000000000, 1)}}, api.ErrRange},
		badGraph{graph{l: []api.Lot{lot("a", 0, 1000000000000000)}}, api.ErrRange},
		badGraph{graph{named(2), []api.Use{use("lot0", "lot1", 1000000000000000, 1)}}, api.ErrRange},
		badGraph{graph{named(2), []api.Use{use("lot0", "lot1", 1, 1000000000000000)}}, api.ErrRange},
		badGraph{graph{u: []api.Use{use("a", "b", 0, 1)}}, api.ErrName},
		badGraph{graph{l: []api.Lot{lot("a_name_of_seventy_bytes_which_is_a_word_of_a_text_but_no_name_of_a_lot_", 0, 1)}}, api.ErrInvalid},
		badGraph{graph{[]api.Lot{lot("Fish", 0, 1)}, []api.Use{use("Fish", "Fish", 0, 0)}}, api.ErrInvalid},
	)
	seen := make(map[api.Errno]bool)
	for _, g := range list {
		if !g.readable() {
			continue
		}
		seen[g.want] = true
		if l, u, line, e := trace.Parse(g.written()); len(l) != 0 || len(u) != 0 || line != 0 || e != g.want {
			t.Errorf("Parse(%q) = %v, %v, %d, %d, not %d", g.written(), l, u, line, e, g.want)
		}
	}
	for _, e := range []api.Errno{api.ErrLimit, api.ErrInvalid, api.ErrDuplicate, api.ErrRange, api.ErrName, api.ErrOrder} {
		if !seen[e] {
			t.Errorf("no text for %d", e)
		}
	}
}

// 8.5
func TestParseOfTheEmptyText(t *testing.T) {
	if l, u, line, e := trace.Parse(""); len(l) != 0 || len(u) != 0 || line != 0 || e != api.OK {
		t.Errorf("Parse = %v, %v, %d, %d", l, u, line, e)
	}
}

// P11: a text that is read is the text of what was read. All texts that differ from one in a byte, or lack one, are tried.
func TestParseReadsNothingElse(t *testing.T) {
	for i := range len(text) {
		tryText(t, text[:i])
		tryText(t, text[:i]+text[i+1:])
		for c := range 256 {
			tryText(t, text[:i]+string([]byte{byte(c)})+text[i+1:])
			tryText(t, text[:i]+string([]byte{byte(c)})+text[i:])
		}
	}
}

func tryText(t *testing.T, s string) {
	l, u, line, e := trace.Parse(s)
	if e == api.OK && (line != 0 || trace.Format(l, u) != s) {
		t.Errorf("Parse(%q) = %v, %v, %d", s, l, u, line)
	}
	if e != api.OK && (len(l) != 0 || len(u) != 0 || line > strings.Count(s, "\n") || e != api.ErrSyntax && line != 0) {
		t.Errorf("Parse(%q) = %v, %v, %d, %d", s, l, u, line, e)
	}
	if e == api.ErrSyntax {
		// The lines before are of a graph, perhaps of one that is not valid, and those up to it are not.
		lines := strings.SplitAfter(s, "\n")
		if _, _, _, e := trace.Parse(strings.Join(lines[:line], "")); e == api.ErrSyntax {
			t.Errorf("Parse of the lines before %d of %q: %d", line, s, e)
		}
		if _, _, at, e := trace.Parse(strings.Join(lines[:line+1], "")); e != api.ErrSyntax || at != line {
			t.Errorf("Parse of the lines up to %d of %q: %d at %d", line, s, e, at)
		}
	}
}

// 8.5, R2: a text that is too long is not read at all.
func TestParseLongTexts(t *testing.T) {
	for _, s := range []string{strings.Repeat("a", api.MaxText+1), text + strings.Repeat("\n", api.MaxText), strings.Repeat(" ", 1<<20)} {
		if l, u, line, e := trace.Parse(s); e != api.ErrLong || line != 0 || len(l) != 0 || len(u) != 0 {
			t.Errorf("Parse of %d bytes = %v, %v, %d, %d", len(s), l, u, line, e)
		}
	}
	for _, sign := range []string{"a", " ", "1", "\n", "1 "} {
		s := text + strings.Repeat(sign, (api.MaxText-len(text))/len(sign))
		if l, u, line, e := trace.Parse(s); e != api.ErrSyntax || line != 7 || len(l) != 0 || len(u) != 0 {
			t.Errorf("Parse of the longest text: %d, %d", line, e)
		}
	}
	s := strings.Repeat("use a b 0 1\n", api.MaxText/12)
	s += "use ab b 0 100\n"[:api.MaxText-len(s)-1] + "\n"
	if _, _, line, e := trace.Parse(s); len(s) != api.MaxText || e != api.ErrSyntax || line != api.MaxText/12 {
		t.Errorf("Parse of %d bytes: %d, %d", len(s), line, e)
	}
	s = "lot " + strings.Repeat("a", api.MaxText-9) + " 0 1\n"
	if l, u, line, e := trace.Parse(s); len(s) != api.MaxText || e != api.ErrInvalid || line != 0 || len(l) != 0 || len(u) != 0 {
		t.Errorf("Parse of a long name: %d bytes, %d, %d", len(s), line, e)
	}
}
