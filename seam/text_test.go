package seam_test

import (
	"slices"
	"strings"
	"testing"

	"cannery/api"
	"cannery/seam"
)

const text = "0 1 2000 1900 3000 200 180 10 1200 3200\n0 12 0 0 0 1 1 0 0 0\n100000000 3 20000 19999 19998 1000 999 100 19997 19996\n"

func sheets() []api.Sheet {
	return []api.Sheet{
		sheet(0, 1),
		{Tick: 0, Head: 12, EndPlate: 1, BodyPlate: 1},
		{Tick: 100000000, Head: 3, BodyHook: 20000, CoverHook: 19999, Height: 19998, EndPlate: 1000, BodyPlate: 999, Wrinkle: 100, Thickness: 19997, Countersink: 19996},
	}
}

// 5.6
func TestFormat(t *testing.T) {
	if s := seam.Format(sheets()); s != text {
		t.Errorf("Format = %q", s)
	}
	if seam.Format(nil) != "" || seam.Format([]api.Sheet{}) != "" {
		t.Error("Format of nothing")
	}
	if strings.Count(seam.Format(many(500)), "\n") != 500 {
		t.Error("Format of many")
	}
	for _, l := range badLists() {
		if s := seam.Format(l); s != "" {
			t.Errorf("Format of %v = %q", l, s)
		}
	}
}

// longest makes the sheets whose text is longest.
func longest() []api.Sheet {
	var l []api.Sheet
	for i := range 500 {
		l = append(l, api.Sheet{
			Tick: 99999900 + i/5, Head: 8 + i%5, BodyHook: 20000, CoverHook: 20000, Height: 20000,
			EndPlate: 1000, BodyPlate: 1000, Wrinkle: 100, Thickness: 20000, Countersink: 20000,
		})
	}
	return l
}

// 5.6, P5.6, P11
func TestParseReadsWhatFormatWrites(t *testing.T) {
	within, _ := around(sheet(7, 1), sheetBounds())
	lists := [][]api.Sheet{nil, sheets(), many(1), many(499), many(500), longest(), teardowns(50, 3)}
	for _, x := range within {
		lists = append(lists, []api.Sheet{x})
	}
	for _, l := range lists {
		m, line, e := seam.Parse(seam.Format(l))
		if e != api.OK || line != 0 || !slices.Equal(m, l) {
			t.Errorf("Parse(Format(%v)) = %v, %d, %d", l, m, line, e)
		}
	}
}

// 5.6, P11: nothing else is read.
func TestParseErrors(t *testing.T) {
	const rest = " 2000 1900 3000 200 180 10 1200 3200\n"
	full := seam.Format(many(500))
	for _, c := range []struct {
		s    string
		line int
	}{
		{"\n", 0},
		{" ", 0},
		{"0", 0},
		{"\x00", 0},
		{text[:len(text)-1], 2},
		{text + "\n", 3},
		{"\n" + text, 0},
		{text + "x", 3},
		{text + "x\ny\n", 3},
		// out of order
		{text + text, 3},
		{"5 1" + rest + "4 1" + rest, 1},
		{"5 1" + rest + "4 2" + rest + "x", 1},
		{"5 1" + rest + "5 1" + rest, 1},
		{"5 2" + rest + "5 1" + rest, 1},
		{"5 1" + rest + "5 2" + rest + "5 2" + rest, 2},
		// the 501st
		{full + "100000000 1" + rest, 500},
		{full + "100000000 1" + rest[:len(rest)-1], 500},
		{full + "\n", 500},
		{full + "x", 500},
		{full[:len(full)-1], 499},
		// a number too few or too many, and other blanks
		{"5" + rest, 0},
		{"5 1 1" + rest, 0},
		{" 5 1" + rest, 0},
		{"5  1" + rest, 0},
		{"5\t1" + rest, 0},
		{"5 1" + rest[:len(rest)-1] + " \n", 0},
		{"5 1" + rest[:len(rest)-1] + "\r\n", 0},
		{"5 1" + rest[:len(rest)-1], 0},
		{"5 1" + rest + "6 1" + rest[:len(rest)-1], 1},
		{"5,1" + rest, 0},
		// other ways to write numbers
		{"05 1" + rest, 0},
		{"00 1" + rest, 0},
		{"+5 1" + rest, 0},
		{"-0 1" + rest, 0},
		{"-5 1" + rest, 0},
		{"5_0 1" + rest, 0},
		{"0x5 1" + rest, 0},
		{"5.0 1" + rest, 0},
		{"5e1 1" + rest, 0},
		{"5 -1" + rest, 0},
		{"5 one" + rest, 0},
		{"99999999999999999999 1" + rest, 0},
		{"\u0665 1" + rest, 0},
		// no valid sheet
		{"100000001 1" + rest, 0},
		{"5 0" + rest, 0},
		{"5 13" + rest, 0},
		{"5 1 20001 1900 3000 200 180 10 1200 3200\n", 0},
		{"5 1 2000 20001 3000 200 180 10 1200 3200\n", 0},
		{"5 1 2000 1900 20001 200 180 10 1200 3200\n", 0},
		{"5 1 2000 1900 3000 0 180 10 1200 3200\n", 0},
		{"5 1 2000 1900 3000 1001 180 10 1200 3200\n", 0},
		{"5 1 2000 1900 3000 200 0 10 1200 3200\n", 0},
		{"5 1 2000 1900 3000 200 1001 10 1200 3200\n", 0},
		{"5 1 2000 1900 3000 200 180 101 1200 3200\n", 0},
		{"5 1 2000 1900 3000 200 180 10 20001 3200\n", 0},
		{"5 1 2000 1900 3000 200 180 10 1200 20001\n", 0},
		{"5 1" + rest + "6 13" + rest, 1},
	} {
		if l, line, e := seam.Parse(c.s); e != api.ErrSyntax || line != c.line || len(l) != 0 {
			t.Errorf("Parse(%q) = %v, %d, %d", c.s, l, line, e)
		}
	}
}

// P11: a text that is read is the text of what was read. All texts that differ from one in a byte, or lack one, are tried.
func TestParseReadsNothingElse(t *testing.T) {
	for i := range len(text) {
		tryText(t, text[:i])
		tryText(t, text[:i]+text[i+1:])
		for c := range 256 {
			tryText(t, text[:i]+string([]byte{byte(c)})+text[i+1:])
			tryText(t, text[:i]+string([]byte{byte(c)})+text[i:])
		}
	}
}

func tryText(t *testing.T, s string) {
	l, line, e := seam.Parse(s)
	if e == api.OK && (line != 0 || seam.Format(l) != s) {
		t.Errorf("Parse(%q) = %v, %d", s, l, line)
	}
	if e != api.OK && (e != api.ErrSyntax || len(l) != 0 || line > strings.Count(s, "\n")) {
		t.Errorf("Parse(%q) = %v, %d, %d", s, l, line, e)
	}
	if e == api.ErrSyntax {
		// The lines before are read, and those up to it are not.
		lines := strings.SplitAfter(s, "\n")
		if _, _, e := seam.Parse(strings.Join(lines[:line], "")); e != api.OK {
			t.Errorf("Parse of the lines before %d of %q: %d", line, s, e)
		}
		if _, at, e := seam.Parse(strings.Join(lines[:line+1], "")); e != api.ErrSyntax || at != line {
			t.Errorf("Parse of the lines up to %d of %q: %d at %d", line, s, e, at)
		}
	}
}

// 5.6, R2: a text that is too long is not read at all.
func TestParseLongTexts(t *testing.T) {
	for _, s := range []string{strings.Repeat("a", api.MaxText+1), text + strings.Repeat("\n", api.MaxText), strings.Repeat(" ", 1<<20)} {
		if l, line, e := seam.Parse(s); e != api.ErrLong || line != 0 || len(l) != 0 {
			t.Errorf("Parse of %d bytes = %v, %d, %d", len(s), l, line, e)
		}
	}
	for _, sign := range []string{"a", " ", "1", "\n", "1 "} {
		s := text + strings.Repeat(sign, (api.MaxText-len(text))/len(sign))
		if l, line, e := seam.Parse(s); e != api.ErrSyntax || line != 3 || len(l) != 0 {
			t.Errorf("Parse of the longest text: %d, %d", line, e)
		}
	}
}
