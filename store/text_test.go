package store_test

import (
	"fmt"
	"math"
	"slices"
	"strings"
	"testing"

	"cannery/api"
	"cannery/store"
)

const text = "in 0 1 peas 100\nsample 1 1 5\nfree 2 1\nship 3 1 joe\nback 40 1\nhold 100000000 1000000\ndestroy 1000000000000000 1000000000000000\nin 7 0 sixteen_letters1 1000000\n"

func textMoves() []api.Move {
	return []api.Move{
		in(0, 1, "peas", 100), sample(1, 1, 5), free(2, 1), ship(3, 1, "joe"), back(40, 1), hold(100000000, 1000000),
		destroy(1000000000000000, 1000000000000000), in(7, 0, "sixteen_letters1", 1000000),
	}
}

// 9.5: also of moves that are no valid ledger.
func TestFormat(t *testing.T) {
	if s := store.Format(textMoves()); s != text {
		t.Errorf("Format = %q", s)
	}
	if store.Format(nil) != "" || store.Format([]api.Move{}) != "" {
		t.Error("Format of nothing")
	}
	if s := store.Format([]api.Move{sample(0, 0, 1), sample(0, 0, 1000000), in(0, 0, "in", 1), ship(0, 0, "ship")}); s != "sample 0 0 1\nsample 0 0 1000000\nin 0 0 in 1\nship 0 0 ship\n" {
		t.Errorf("Format = %q", s)
	}
	if s := store.Format(full(5000)); strings.Count(s, "\n") != 5000 {
		t.Errorf("Format of 5,000 has %d lines", strings.Count(s, "\n"))
	}
	for n, l := range map[int][]api.Move{5001: append(full(5000), hold(5000, 1)), 6000: slices.Repeat([]api.Move{hold(1, 1)}, 6000)} {
		if s := store.Format(l); s != "" {
			t.Errorf("Format of %d = %d bytes", n, len(s))
		}
	}
}

// unwritten lists moves that no line tells.
func unwritten() []api.Move {
	var list []api.Move
	for _, n := range []int{math.MinInt, -1, 1000000000000001, math.MaxInt} {
		list = append(list, in(n, 1, "a", 1), hold(n, 1), free(n, 1), ship(n, 1, "a"), back(n, 1), destroy(n, 1), sample(n, 1, 1))
		list = append(list, in(1, n, "a", 1), hold(1, n), free(1, n), ship(1, n, "a"), back(1, n), destroy(1, n), sample(1, n, 1))
	}
	for _, n := range []int{math.MinInt, -1, 0, 8, math.MaxInt} {
		list = append(list, api.Move{At: 1, Pallet: 1, Kind: n})
	}
	for _, b := range badForms() {
		if between(b.m.Kind, 1, 7) && wrongUse(b.m) {
			list = append(list, b.m)
		}
	}
	return list
}

// 9.5
func TestFormatOfWrongMoves(t *testing.T) {
	for _, m := range unwritten() {
		for _, l := range [][]api.Move{{m}, {hold(1, 1), m}, {m, hold(1, 1)}, append(textMoves(), m, m)} {
			if s := store.Format(l); s != "" {
				t.Errorf("Format of %v = %q", l, s)
			}
		}
	}
}

// 9.5, P9.6, P11
func TestParseReadsWhatFormatWrites(t *testing.T) {
	list := append(goodLedgers(), textMoves())
	for seed := range 200 {
		r := randomness(seed)
		var l []api.Move
		for range seed % 50 {
			m := anyMove(r, l)
			m.At, m.Pallet = r.IntN(1000000000000001), r.IntN(1<<(1+r.IntN(49)))
			if m.Kind == api.MIn || m.Kind == api.MSample {
				m.Cans = 1 + r.IntN(1000000)
			}
			l = append(l, m)
		}
		list = append(list, l)
	}
	longest := slices.Repeat([]api.Move{in(1000000000000000, 1000000000000000, "sixteen_letters1", 1000000)}, 5000)
	for _, l := range append(list, longest) {
		s := store.Format(l)
		if got, line, e := store.Parse(s); e != api.OK || line != 0 || !slices.Equal(got, l) {
			t.Errorf("Parse(Format(%s)) = %s, %d, %d", told(l), told(got), line, e)
		}
		if len(l) > 0 && s == "" {
			t.Errorf("Format of %s is empty", told(l))
		}
	}
}

// 9.5, P11: nothing else is read.
func TestParseErrors(t *testing.T) {
	for _, c := range []struct {
		s    string
		line int
	}{
		{"\n", 0},
		{" ", 0},
		{" \n", 0},
		{"x", 0},
		{"x\n", 0},
		{"in", 0},
		{"in\n", 0},
		{"hold\n", 0},
		{"hold 1 1", 0},
		{text[:len(text)-1], 7},
		{text[:len(text)-9], 7},
		{text + "\n", 8},
		{"\n" + text, 0},
		{text + "x", 8},
		{text + "x\ny\n", 8},
		{text + text + "hold 1\n" + text, 16},
		{strings.Replace(text, "\n", "\n\n", 1), 1},
		{strings.ReplaceAll(text, "\n", "\r\n"), 0},
		{strings.ReplaceAll(text, "\n", " "), 0},
		// other words, and too few or too many
		{"In 1 1 a 1\n", 0},
		{"holds 1 1\n", 0},
		{"hol 1 1\n", 0},
		{"1 1\n", 0},
		{"move 1 1\n", 0},
		{"in 1 1 a\n", 0},
		{"in 1 1 1\n", 0},
		{"in 1 1 a 1 1\n", 0},
		{"in 1 1 a b 1\n", 0},
		{"in 1 a 1 1\n", 0},
		{"hold 1\n", 0},
		{"hold 1 1 1\n", 0},
		{"hold 1 1 a\n", 0},
		{"free 1\n", 0},
		{"free 1 1 1\n", 0},
		{"ship 1 1\n", 0},
		{"ship 1 joe\n", 0},
		{"ship 1 1 joe 1\n", 0},
		{"ship 1 1 joe ann\n", 0},
		{"ship 1 joe 1\n", 0},
		{"back 1 1 joe\n", 0},
		{"back 1\n", 0},
		{"destroy 1 1 1\n", 0},
		{"destroy 1\n", 0},
		{"sample 1 1\n", 0},
		{"sample 1 1 a\n", 0},
		{"sample 1 1 1 1\n", 0},
		{"sample 1 1 a 1\n", 0},
		// other blanks, and words that are empty
		{" hold 1 1\n", 0},
		{"hold  1 1\n", 0},
		{"hold 1  1\n", 0},
		{"hold 1 1 \n", 0},
		{"hold 1 \n", 0},
		{"hold  1\n", 0},
		{"hold 1 1\r\n", 0},
		{"hold 1 1\t\n", 0},
		{"hold\t1 1\n", 0},
		{"ship 1 1 \n", 0},
		{"ship 1 1  joe\n", 0},
		{"in 1 1  1\n", 0},
		{"in 1 1 a \n", 0},
		{" 1 1\n", 0},
		// no names
		{"in 1 1 A 1\n", 0},
		{"in 1 1 7up 1\n", 0},
		{"in 1 1 _ 1\n", 0},
		{"in 1 1 zo\u00eb 1\n", 0},
		{"in 1 1 seventeenletters_ 1\n", 0},
		{"in 1 1 a\x00 1\n", 0},
		{"ship 1 1 Joe\n", 0},
		{"ship 1 1 1\n", 0},
		{"ship 1 1 seventeenletters_\n", 0},
		{"ship 1 1 joe\r\n", 0},
		// other ways to write numbers
		{"hold 01 1\n", 0},
		{"hold 00 1\n", 0},
		{"hold 1 01\n", 0},
		{"hold +1 1\n", 0},
		{"hold 1 +1\n", 0},
		{"hold -0 1\n", 0},
		{"hold -1 1\n", 0},
		{"hold 1 -1\n", 0},
		{"hold 1_0 1\n", 0},
		{"hold 0x1 1\n", 0},
		{"hold 1.0 1\n", 0},
		{"hold 1e3 1\n", 0},
		{"hold one 1\n", 0},
		{"hold \u0661 1\n", 0},
		{"in 1 1 a 01\n", 0},
		{"in 1 1 a +1\n", 0},
		{"in 1 1 a x\n", 0},
		{"sample 1 1 01\n", 0},
		{"sample 1 1 +1\n", 0},
		// numbers that Format does not write
		{"hold 1000000000000001 1\n", 0},
		{"hold 1 1000000000000001\n", 0},
		{"hold 1 9223372036854775808\n", 0},
		{"hold 18446744073709551617 1\n", 0},
		{"hold 99999999999999999999999 1\n", 0},
		{"in 1 1 a 0\n", 0},
		{"in 1 1 a -1\n", 0},
		{"in 1 1 a 1000001\n", 0},
		{"in 1 1 a 18446744073709551617\n", 0},
		{"sample 1 1 0\n", 0},
		{"sample 1 1 -1\n", 0},
		{"sample 1 1 1000001\n", 0},
		// before there are too many
		{strings.Repeat("hold 1 1\n", 5001) + "x\n", 5001},
		{strings.Repeat("hold 1 1\n", 6000) + "hold 1 1", 6000},
		{strings.Repeat("hold 1 1\n", 4999) + "\n", 4999},
	} {
		if l, line, e := store.Parse(c.s); e != api.ErrSyntax || line != c.line || len(l) != 0 {
			t.Errorf("Parse of %q = %s, %d, %d, not line %d", c.s[max(0, len(c.s)-60):], told(l), line, e, c.line)
		}
	}
}

// 9.5: 5,000 moves are read, more are not.
func TestParseOfMany(t *testing.T) {
	for n, want := range map[int]api.Errno{4999: api.OK, 5000: api.OK, 5001: api.ErrLimit, 5002: api.ErrLimit, 100000: api.ErrLimit} {
		l, line, e := store.Parse(strings.Repeat("hold 1 1\n", n))
		if e != want || line != 0 || want == api.OK && len(l) != n || want != api.OK && len(l) != 0 {
			t.Errorf("Parse of %d lines = %d moves, %d, %d", n, len(l), line, e)
		}
	}
	if l, line, e := store.Parse(""); len(l) != 0 || line != 0 || e != api.OK {
		t.Errorf("Parse of nothing = %v, %d, %d", l, line, e)
	}
}

// 9.5, R2: a text that is too long is not read at all.
func TestParseLongTexts(t *testing.T) {
	for _, s := range []string{strings.Repeat("a", 1000001), text + strings.Repeat("\n", 1000000), strings.Repeat("hold 10 1\n", 100000) + "x", strings.Repeat(" ", 1<<21)} {
		if l, line, e := store.Parse(s); e != api.ErrLong || line != 0 || len(l) != 0 {
			t.Errorf("Parse of %d bytes = %s, %d, %d", len(s), told(l), line, e)
		}
	}
	s := strings.Repeat("hold 10 1\n", 100000)
	if l, line, e := store.Parse(s); len(s) != 1000000 || e != api.ErrLimit || line != 0 || len(l) != 0 {
		t.Errorf("Parse of %d bytes = %d moves, %d, %d", len(s), len(l), line, e)
	}
	for _, sign := range []string{"a", " ", "1", "\n", "1 "} {
		s := text + strings.Repeat(sign, (1000000-len(text))/len(sign))
		if l, line, e := store.Parse(s); e != api.ErrSyntax || line != 8 || len(l) != 0 {
			t.Errorf("Parse of the longest text: %d, %d", line, e)
		}
	}
}

// P11: a text that is read is the text of what was read. All texts that differ from one in a byte, or lack one, are tried.
func TestParseReadsNothingElse(t *testing.T) {
	for i := range len(text) {
		tryText(t, text[:i])
		tryText(t, text[:i]+text[i+1:])
		for c := range 256 {
			tryText(t, text[:i]+string([]byte{byte(c)})+text[i+1:])
			tryText(t, text[:i]+string([]byte{byte(c)})+text[i:])
		}
	}
}

func tryText(t *testing.T, s string) {
	l, line, e := store.Parse(s)
	if e == api.OK && (line != 0 || store.Format(l) != s) {
		t.Errorf("Parse(%q) = %v, %d", s, l, line)
	}
	if e != api.OK && (len(l) != 0 || e != api.ErrSyntax) {
		t.Errorf("Parse(%q) = %v, %d, %d", s, l, line, e)
	}
	if e == api.ErrSyntax {
		// The lines before are read, and the line itself is not.
		lines := strings.SplitAfter(s, "\n")
		if l, _, e := store.Parse(strings.Join(lines[:line], "")); e != api.OK || len(l) != line {
			t.Errorf("Parse of the lines before %d of %q: %d", line, s, e)
		}
		if _, at, e := store.Parse(lines[line]); e != api.ErrSyntax || at != 0 {
			t.Errorf("Parse of the line %d of %q: %d at %d", line, s, e, at)
		}
	}
}

// 9.5: Parse does not check the ledger.
func TestParseOfWrongLedgers(t *testing.T) {
	read := 0
	for _, b := range badLedgers() {
		s := store.Format(b.l)
		if s == "" {
			continue
		}
		read++
		if l, line, e := store.Parse(s); !slices.Equal(l, b.l) || line != 0 || e != api.OK {
			t.Errorf("Parse(%q) = %s, %d, %d", s[:min(len(s), 1000)], told(l), line, e)
		}
	}
	if read < 50 {
		t.Errorf("only %d were read", read)
	}
	s := fmt.Sprintf("ship 9 9 joe\nin 3 9 a 1\nin 3 9 a 1\nhold %d 0\n", 1000000000000000)
	if l, line, e := store.Parse(s); len(l) != 4 || line != 0 || e != api.OK {
		t.Errorf("Parse(%q) = %v, %d, %d", s, l, line, e)
	}
}
