package retort_test

import (
	"slices"
	"strings"
	"testing"

	"cannery/api"
	"cannery/retort"
)

const text = "vent 100000 2\nup 121000\ncook 121000 3\ncool 30000 2\n"

// 3.6
func TestFormat(t *testing.T) {
	if s := retort.Format(usual()); s != text {
		t.Errorf("Format = %q", s)
	}
	for want, s := range map[string]api.Step{
		"vent 0 0\n":         {Kind: api.KVent},
		"vent 200000 2000\n": {Kind: api.KVent, Set: 200000, Ticks: 2000},
		"up 0\n":             {Kind: api.KUp},
		"up 200000\n":        {Kind: api.KUp, Set: 200000},
		"cook 0 1\n":         {Kind: api.KCook, Ticks: 1},
		"cool 10 2000\n":     {Kind: api.KCool, Set: 10, Ticks: 2000},
	} {
		if got := retort.Format([]api.Step{s}); got != want {
			t.Errorf("Format(%v) = %q", s, got)
		}
	}
	for _, p := range badPrograms() {
		if s := retort.Format(p); s != "" {
			t.Errorf("Format(%v) = %q", p, s)
		}
	}
}

// 3.6, P3.6, P11
func TestParseReadsWhatFormatWrites(t *testing.T) {
	for _, p := range programs() {
		q, line, e := retort.Parse(retort.Format(p))
		if e != api.OK || line != 0 || !slices.Equal(q, p) {
			t.Errorf("Parse(Format(%v)) = %v, %d, %d", p, q, line, e)
		}
	}
}

// 3.6, P11: nothing else is read.
func TestParseErrors(t *testing.T) {
	full := strings.Repeat("up 33\n", 16)
	for _, c := range []struct {
		s    string
		line int
	}{
		{"", 0},
		{"\n", 0},
		{" ", 0},
		{"up", 0},
		{"up\n", 0},
		{"up \n", 0},
		{"up 5", 0},
		{text + "up 5", 4},
		{text + "\n", 4},
		{text + "x\ny\n", 4},
		{text[:len(text)-1], 3},
		{full + "up 33\n", 16},
		{full + "up", 16},
		{full + "\n", 16},
		{full[:len(full)-1], 15},
		{"up 1\n\nup 1\n", 1},
		{"up 1\nup 2\nup x\nup y\n", 2},
		{"Up 5\n", 0},
		{"down 5\n", 0},
		{" 5\n", 0},
		{" 5 1\n", 0},
		{" up 5\n", 0},
		{"up 5 \n", 0},
		{"up  5\n", 0},
		{"up\t5\n", 0},
		{"up 5\r\n", 0},
		{"up 5 0\n", 0},
		{"up 5 1\n", 0},
		{"up 05\n", 0},
		{"up 00\n", 0},
		{"up +5\n", 0},
		{"up -5\n", 0},
		{"up -0\n", 0},
		{"up 5.0\n", 0},
		{"up 0x5\n", 0},
		{"up 1_0\n", 0},
		{"up x\n", 0},
		{"up 200001\n", 0},
		{"up 99999999999999999999\n", 0},
		{"up 18446744073709551617\n", 0},
		{"vent 5\n", 0},
		{"vent 5 1 1\n", 0},
		{"vent 5 01\n", 0},
		{"vent 5 +1\n", 0},
		{"vent 5 -1\n", 0},
		{"vent 5 x\n", 0},
		{"vent 5 2001\n", 0},
		{"vent 200001 1\n", 0},
		{"vent 5 99999999999999999999\n", 0},
		{"cook 5 0\n", 0},
		{"cook 5 2001\n", 0},
		{"cook 5\n", 0},
		{"cook -1 5\n", 0},
		{"cool 5 0\n", 0},
		{"cool 5 2001\n", 0},
		{"cool 5\n", 0},
		{"up 5\x00\n", 0},
		{"\x00up 5\n", 0},
		{"3 5 1\n", 0},
	} {
		if p, line, e := retort.Parse(c.s); e != api.ErrSyntax || line != c.line || len(p) != 0 {
			t.Errorf("Parse(%q) = %v, %d, %d", c.s, p, line, e)
		}
	}
	if p, line, e := retort.Parse(full); e != api.OK || line != 0 || len(p) != 16 {
		t.Errorf("Parse of 16 steps = %v, %d, %d", p, line, e)
	}
}

// P11: a text that is read is the text of what was read. All texts that differ from one in a byte, or lack one, are tried.
func TestParseReadsNothingElse(t *testing.T) {
	for i := range len(text) {
		tryText(t, text[:i])
		tryText(t, text[:i]+text[i+1:])
		for c := range 256 {
			tryText(t, text[:i]+string([]byte{byte(c)})+text[i+1:])
			tryText(t, text[:i]+string([]byte{byte(c)})+text[i:])
		}
	}
}

func tryText(t *testing.T, s string) {
	t.Helper()
	p, line, e := retort.Parse(s)
	if e == api.OK && (line != 0 || retort.Format(p) != s) {
		t.Errorf("Parse(%q) = %v, %d", s, p, line)
	}
	if e != api.OK && (e != api.ErrSyntax || len(p) != 0 || !goesOn(s, line)) {
		t.Errorf("Parse(%q) = %v, %d, %d", s, p, line, e)
	}
}

// goesOn reports whether the lines before the one with a number are a text of a program, and those up to it are not.
func goesOn(s string, line int) bool {
	lines := strings.SplitAfter(s, "\n")
	if line > 0 {
		if _, _, e := retort.Parse(strings.Join(lines[:line], "")); e != api.OK {
			return false
		}
	}
	_, _, e := retort.Parse(strings.Join(lines[:line+1], ""))
	return e != api.OK
}

// 3.6, R2: a text that is too long is not read at all.
func TestParseLongTexts(t *testing.T) {
	for _, s := range []string{strings.Repeat("a", api.MaxText+1), text + strings.Repeat("\n", api.MaxText)} {
		if p, line, e := retort.Parse(s); e != api.ErrLong || line != 0 || len(p) != 0 {
			t.Errorf("Parse of %d bytes = %v, %d, %d", len(s), p, line, e)
		}
	}
	for _, fill := range []string{"a", " ", "\n", "0"} {
		if _, line, e := retort.Parse(text + strings.Repeat(fill, api.MaxText-len(text))); e != api.ErrSyntax || line != 4 {
			t.Errorf("Parse of the longest text: %d, %d", line, e)
		}
	}
}
