package plant_test

import (
	"fmt"
	"hash/fnv"
	"math"
	"slices"
	"strings"
	"testing"

	"cannery/api"
	"cannery/plant"
)

// sumOf is a line's Sum by the library's own hash.
func sumOf(before uint64, number, tick any, text string) uint64 {
	h := fnv.New64a()
	fmt.Fprintf(h, "%d %v %v %s", before, number, tick, text)
	return h.Sum64()
}

// entered is something that stands in a book.
type entered struct {
	tick any
	text string
}

// bookOf is the bytes of a book with right Numbers and Sums.
func bookOf(l ...entered) string {
	var b strings.Builder
	sum := uint64(0)
	for i, x := range l {
		sum = sumOf(sum, i, x.tick, x.text)
		fmt.Fprintf(&b, "%d %v %d %s\n", i, x.tick, sum, x.text)
	}
	return b.String()
}

// linesOf are the lines that a script makes, if none of it fails: its own, with the tick behind each.
func linesOf(script string) []api.Line {
	var l []api.Line
	tick, sum := 0, uint64(0)
	for i, text := range strings.Split(strings.TrimSuffix(script, "\n"), "\n") {
		var n int
		if _, err := fmt.Sscanf(text, "wait %d", &n); err == nil {
			tick += n
		}
		sum = sumOf(sum, i, tick, text)
		l = append(l, api.Line{Number: i, Tick: tick, Text: text, Sum: sum})
	}
	return l
}

// Of 10.3: the book has a line for each command, with its Text.
func TestLines(t *testing.T) {
	p := ran(t, "wait 5\n")
	if l := p.Lines(); !slices.Equal(l, []api.Line{{Number: 0, Tick: 5, Text: "wait 5", Sum: sumOf(0, 0, 5, "wait 5")}}) {
		t.Errorf("Lines = %v", l)
	}
	script := summer + "wait 3\nlot rod 9\nuse tin rod 0 1\ncook beans rod 50 1 0 0 0:1:2 3:100000000:200000\nscrap 50\nback 1\n"
	p = ran(t, script)
	want := linesOf(script)
	if l := p.Lines(); !slices.Equal(l, want) {
		t.Errorf("Lines = %v", l)
	}
	var text strings.Builder
	for _, x := range want {
		fmt.Fprintf(&text, "%d %d %d %s\n", x.Number, x.Tick, x.Sum, x.Text)
	}
	if b := p.Bytes(); string(b) != text.String() {
		t.Errorf("Bytes = %s", b)
	}
}

// Of 10.3: the Text of a command tells its arguments.
func TestTextsOfCommands(t *testing.T) {
	p := ran(t, "lot fish 100\nlot a 1\nwait 1\nlot batch 120\n"+teardown)
	p.Use("fish", "batch", 1, 2)
	p.Tear(api.Sheet{Tick: 9, Head: 3, BodyHook: 4, CoverHook: 5, Height: 6, EndPlate: 7, BodyPlate: 8, Wrinkle: 9, Thickness: 10, Countersink: 11})
	p.Cook("beans", "batch", 12, 13, 14, 15, []api.Fault{{From: 16, To: 17, Most: 18}, {From: 1, To: 2, Most: 0}})
	p.Cook("beans", "batch", 13, 14, 15, 16, nil)
	p.Wait(2)
	run(t, p, teardown)
	p.Judge(1)
	p.Ship(12, "joe")
	p.Back(12)
	p.Scrap(12)
	p.Recall("fish")
	p.Lot("b", 77)
	var texts []string
	for _, x := range p.Lines()[6:] {
		texts = append(texts, x.Text)
	}
	want := []string{
		"use fish batch 1 2", "tear 3 4 5 6 7 8 9 10 11", "cook beans batch 12 13 14 15 16:17:18 1:2:0", "cook beans batch 13 14 15 16", "wait 2",
		"tear 1" + goodSeam, "tear 2" + goodSeam, "judge 1", "ship 12 joe", "back 12", "scrap 12", "recall fish", "lot b 77",
	}
	if !slices.Equal(texts, want) {
		t.Errorf("texts: %q", texts)
	}
}

// Of 10.4: which books are not read.
func TestBrokenBooks(t *testing.T) {
	sum := sumOf(0, 0, 5, "wait 5")
	first := bookOf(entered{5, "wait 5"})
	for b, want := range map[string]api.Errno{
		"":                                   api.OK,
		"x":                                  api.OK, // a torn line
		"0 5 1":                              api.OK,
		first:                                api.OK,
		first + bookOf(entered{5, "wait 5"}): api.ErrChain,
		first + "\n":                         api.ErrChain,
		first + "1 5":                        api.OK,
		"\n":                                 api.ErrChain,
		"\n\n":                               api.ErrChain,
		" \n":                                api.ErrChain,
		"0\n":                                api.ErrChain,
		"0 5\n":                              api.ErrChain,
		fmt.Sprintf("0 5 %d\n", sum):         api.ErrChain,
		fmt.Sprintf("0 5 %d \n", sumOf(0, 0, 5, "")):                               api.ErrChain,
		fmt.Sprintf("0 5 %d wait 5\n", sum+1):                                      api.ErrChain,
		fmt.Sprintf("0 5 0%d wait 5\n", sum):                                       api.ErrChain,
		fmt.Sprintf("0 5 +%d wait 5\n", sum):                                       api.ErrChain,
		fmt.Sprintf("0 5  %d wait 5\n", sum):                                       api.ErrChain,
		fmt.Sprintf(" 0 5 %d wait 5\n", sum):                                       api.ErrChain,
		fmt.Sprintf("0  5 %d wait 5\n", sum):                                       api.ErrChain,
		fmt.Sprintf("00 5 %d wait 5\n", sum):                                       api.ErrChain,
		fmt.Sprintf("+0 5 %d wait 5\n", sum):                                       api.ErrChain,
		fmt.Sprintf("-0 5 %d wait 5\n", sum):                                       api.ErrChain,
		fmt.Sprintf("0 05 %d wait 5\n", sum):                                       api.ErrChain,
		fmt.Sprintf("0 +5 %d wait 5\n", sum):                                       api.ErrChain,
		fmt.Sprintf("0 05 %d wait 5\n", sumOf(0, 0, "05", "wait 5")):               api.ErrChain,
		fmt.Sprintf("0 +5 %d wait 5\n", sumOf(0, 0, "+5", "wait 5")):               api.ErrChain,
		fmt.Sprintf("0 -5 %d wait 5\n", sumOf(0, 0, "-5", "wait 5")):               api.ErrChain,
		fmt.Sprintf("0 x %d wait 5\n", sumOf(0, 0, "x", "wait 5")):                 api.ErrChain,
		fmt.Sprintf("0 x %d wait 5\n", sumOf(0, 0, 0, "wait 5")):                   api.ErrChain,
		fmt.Sprintf("0  %d wait 5\n", sumOf(0, 0, "", "wait 5")):                   api.ErrChain,
		fmt.Sprintf("00 5 %d wait 5\n", sumOf(0, "00", 5, "wait 5")):               api.ErrChain,
		fmt.Sprintf("1 5 %d wait 5\n", sumOf(0, 1, 5, "wait 5")):                   api.ErrChain,
		fmt.Sprintf("-1 5 %d wait 5\n", sumOf(0, -1, 5, "wait 5")):                 api.ErrChain,
		fmt.Sprintf("0 5 %d wait 5\r\n", sum):                                      api.ErrChain,
		fmt.Sprintf("0 100000001 %d wait 5\n", sumOf(0, 0, 100000001, "wait 5")):   api.ErrChain,
		bookOf(entered{100000000, "wait 100000000"}):                               api.OK,
		bookOf(entered{100000000, "wait 5"}):                                       api.ErrState,
		bookOf(entered{6, "wait 5"}):                                               api.ErrState, // another line than the command makes
		bookOf(entered{5, "wait 5"}, entered{4, "wait 5"}):                         api.ErrState,
		bookOf(entered{0, "wait 0"}):                                               api.ErrState, // a command that fails
		bookOf(entered{5, "wait 05"}):                                              api.ErrState,
		bookOf(entered{5, "wait +5"}):                                              api.ErrState,
		bookOf(entered{5, "wait  5"}):                                              api.ErrState,
		bookOf(entered{5, " wait 5"}):                                              api.ErrState,
		bookOf(entered{5, "wait 5 "}):                                              api.ErrState,
		bookOf(entered{5, "wait 5\r"}):                                             api.ErrState,
		bookOf(entered{5, "wait 5 5"}):                                             api.ErrState,
		bookOf(entered{0, " "}):                                                    api.ErrState,
		bookOf(entered{0, "x"}):                                                    api.ErrState,
		bookOf(entered{0, "now"}):                                                  api.ErrState,
		bookOf(entered{0, "account a"}):                                            api.ErrState,
		bookOf(entered{0, "lot A 5"}):                                              api.ErrState,
		bookOf(entered{0, "lot a 5"}, entered{0, "lot a 5"}):                       api.ErrState,
		bookOf(entered{0, "x"}) + "\n":                                             api.ErrChain, // before any ErrState
		bookOf(entered{0, "x"}) + "torn":                                           api.ErrState,
		bookOf(entered{0, "lot a 5"}, entered{3, "wait 3"}, entered{3, "lot b 5"}): api.OK,
	} {
		p, e := plant.Read(setup(), []byte(b))
		if e != want || (p != nil) != (want == api.OK) {
			t.Errorf("Read of %q = %v, %d", b, p, e)
		}
	}
}

// Of 10.4: a book may have 2,000 lines.
func TestLongBooks(t *testing.T) {
	var l []entered
	for i := range 2001 {
		l = append(l, entered{i + 1, "wait 1"})
	}
	book := bookOf(l...)
	full := book[:strings.LastIndex(book, "\n2000 ")+1]
	wrong := strings.Replace(full, "\n1500 ", "\n1501 ", 1)
	for b, want := range map[string]api.Errno{
		full:                     api.OK,
		full + "torn":            api.OK,
		full + "misfit\n":        api.ErrChain,
		book:                     api.ErrLimit,
		book + "misfit\n":        api.ErrLimit,
		strings.TrimSpace(book):  api.OK,
		wrong:                    api.ErrChain,
		wrong + book[len(full):]: api.ErrChain,
		bookOf(append([]entered{{0, "x"}}, l...)...):        api.ErrLimit, // before any ErrState
		bookOf(append([]entered{{0, "x"}}, l[:1999]...)...): api.ErrState,
	} {
		p, e := plant.Read(setup(), []byte(b))
		if e != want || (p != nil) != (want == api.OK) {
			t.Errorf("Read of %.9q..%.9q: %d, not %d", b, b[len(b)-9:], e, want)
		}
		if p != nil && len(p.Lines()) != 2000 {
			t.Errorf("%d lines", len(p.Lines()))
		}
	}
}

// Of P10.5: Read gives the plant of each beginning of a book.
func TestBeginnings(t *testing.T) {
	t.Parallel()
	b := ran(t, summer).Bytes()
	q := opened(t, setup()) // what the whole lines make
	lines := 0
	for end := range len(b) + 1 {
		whole := end == 0 || b[end-1] == '\n'
		if end > 0 && whole {
			run(t, q, strings.SplitAfter(summer, "\n")[lines])
			lines++
		}
		// Reading takes its time: not every torn line is tried behind the first ones.
		if end > 200 && !whole && end%13 > 0 {
			continue
		}
		got, e := plant.Read(setup(), b[:end])
		if e != api.OK || !plant.Same(got, q) || !plant.Same(q, got) || told(got) != told(q) {
			t.Fatalf("Read of %d bytes: %d", end, e)
		}
		if whole && !slices.Equal(got.Bytes(), b[:end]) {
			t.Fatalf("Read of %d bytes has the bytes %s", end, got.Bytes())
		}
	}
	if lines != strings.Count(summer, "\n") {
		t.Errorf("%d lines", lines)
	}
}

// Of P10.5: a plant that was read from a torn book goes on behind the last whole line.
func TestGoingOn(t *testing.T) {
	b := ran(t, summer).Bytes()
	p, e := plant.Read(setup(), b[:len(b)-1])
	if e != api.OK {
		t.Fatalf("Read: %d", e)
	}
	run(t, p, "wait 9\nrecall tin\n")
	if want := linesOf(strings.TrimSuffix(summer, "recall brine\n") + "wait 9\nrecall tin\n"); !slices.Equal(p.Lines(), want) {
		t.Errorf("lines: %v", p.Lines())
	}
}

// Of P10.5: no changed byte of a book passes.
func TestChangedBytes(t *testing.T) {
	t.Parallel()
	p := ran(t, "lot a 10\n"+teardown+"cook peas a 1 100 20000 300"+mild+"\nwait 1\n"+teardown+"judge 1\nship 1 joe\nrecall a\n")
	b := p.Bytes()
	for i, was := range b {
		for by := 1; by < 256; by++ {
			b[i] = was ^ byte(by)
			q, e := plant.Read(setup(), b)
			switch {
			case e == api.ErrChain || e == api.ErrState:
			case i == len(b)-1 && e == api.OK: // the last line is torn
			default:
				t.Fatalf("Read with %q for %q at %d = %v, %d", b[i], was, i, q, e)
			}
		}
		b[i] = was
	}
	for i, x := range p.Lines() {
		// Each line, dropped or exchanged, is missed.
		l := strings.SplitAfter(string(b), "\n")
		if _, e := plant.Read(setup(), []byte(strings.Join(slices.Delete(l, i, i+1), ""))); e != api.ErrChain && i < len(p.Lines())-1 {
			t.Errorf("without %v: %d", x, e)
		}
	}
}

// Of 10.4: another setup may make the commands of a book fail, or other lines.
func TestBooksOfOtherSetups(t *testing.T) {
	b := ran(t, summer).Bytes()
	for name, f := range map[string]func(x *plant.Setup){
		"no schedules":   func(x *plant.Setup) { x.Schedules = nil },
		"a third head":   func(x *plant.Setup) { x.Heads = 3 },
		"a high chart":   func(x *plant.Setup) { x.Vessel.Chart = 1 },
		"a short life":   func(x *plant.Setup) { x.Life = 2 },
		"a stronger one": func(x *plant.Setup) { x.Killer.D = 60 },
	} {
		x := setup()
		f(&x)
		if p, e := plant.Read(x, b); p != nil || e != api.ErrState {
			t.Errorf("%s: Read = %v, %d", name, p, e)
		}
	}
}

// Of 10.4: which plants are the same.
func TestSame(t *testing.T) {
	t.Parallel()
	p, q := ran(t, summer), ran(t, summer)
	if !plant.Same(p, p) || !plant.Same(p, q) || !plant.Same(q, p) {
		t.Error("the same plant is another one")
	}
	if plant.Same(p, nil) || plant.Same(nil, p) || plant.Same(nil, nil) {
		t.Error("no plant is the same as one")
	}
	for _, line := range []string{"wait 1", "lot new 1", "use cans tin 0 1", "tear 1" + goodSeam, "cook beans other 9 1 0 1", "judge 3", "back 1", "scrap 3", "recall cans"} {
		q := ran(t, summer+line+"\n")
		if plant.Same(p, q) || plant.Same(q, p) || !plant.Same(q, ran(t, summer+line+"\n")) {
			t.Errorf("%s makes no difference", line)
		}
	}
	a, b := ran(t, "lot a 1\nlot b 1\nrecall a\nrecall b\n"), ran(t, "lot a 1\nlot b 1\nrecall b\nrecall a\n")
	if plant.Same(a, b) {
		t.Error("another book makes no difference")
	}
	failing := ran(t, summer)
	failing.Wait(math.MinInt)
	if !plant.Same(p, failing) {
		t.Error("a command that failed makes a difference")
	}
}
